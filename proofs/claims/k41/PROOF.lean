import PyProof.Rows.All
import Wide.All
import OpenK.AllK
import Wide.FinOn
import PyProof.EqAt
import PyProof.EqKinds
import PyProof.TupleCall
import Lean
import PySem.Challenge.RW_onceroad_k41_pieces_beside_bars
set_option Elab.async false
set_option linter.all false
set_option maxRecDepth 100000
namespace L2
open PySem PySem.Spec PyProof.Rows
abbrev Key:=Sum Int Str
def qci:Key→Value→Bool
 | .inl k,v=>Value.isInt k v
 | .inr x,v=>Value.isStrOf x v
def keyH (w:World):Key→Int
 | .inl k=>hashInt k
 | .inr x=>hashStr w x
theorem qQ:∀ {k:Key} {v:Value},qci k v=true→(∃ i t,k=Sum.inl i∧v=Value.int i t)∨(∃ x t,k=Sum.inr x∧v=Value.str x t)
 | .inl i,v,h=>by
  obtain ⟨t,e⟩:=Value.isInt_shape (k:=i) (v:=v) h
  exact .inl ⟨i,t,rfl,e⟩
 | .inr x,v,h=>by
  obtain ⟨t,e⟩:=Value.isStrOf_shape (x:=x) (v:=v) h
  exact .inr ⟨x,t,rfl,e⟩
theorem keyIs_int (i:Int) (t:Tok):qci (.inl i) (.int i t)=true:=by simp [qci,Value.isInt]
theorem keyIs_str (x:Str) (t:Tok):qci (.inr x) (.str x t)=true:=by simp [qci,Value.isStrOf]
theorem key_ll (a b:Int):decide ((Sum.inl a:Key)=Sum.inl b)=(a==b):=by
 by_cases e:a=b
 ·subst e;simp
 ·have h:¬ (Sum.inl a:Key)=Sum.inl b:=fun q=>e (Sum.inl.inj q)
  rw [decide_eq_false h]
  exact (beq_eq_false_iff_ne.mpr e).symm
theorem key_rr (a b:Str):decide ((Sum.inr a:Key)=Sum.inr b)=decide (a=b):=by
 by_cases e:a=b
 ·subst e;simp
 ·have h:¬ (Sum.inr a:Key)=Sum.inr b:=fun q=>e (Sum.inr.inj q)
  rw [decide_eq_false h,decide_eq_false e]
theorem key_lr (a:Int) (b:Str):decide ((Sum.inl a:Key)=Sum.inr b)=false:=decide_eq_false (fun q=>nomatch q)
theorem key_rl (a:Str) (b:Int):decide ((Sum.inr a:Key)=Sum.inl b)=false:=decide_eq_false (fun q=>nomatch q)
def jC (prog:Program) (w:World):PySem.KeyKind prog w Key where
 is:=qci
 hash:=keyH w
 inj:=fun v a b ha hb=>by
  rcases qQ ha with ⟨i,t,rfl,rfl⟩ | ⟨x,t,rfl,rfl⟩
  ·rcases qQ hb with ⟨j,u,rfl,e⟩ | ⟨y,u,rfl,e⟩
   ·injection e with e1 _;rw [e1]
   ·exact nomatch e
  ·rcases qQ hb with ⟨j,u,rfl,e⟩ | ⟨y,u,rfl,e⟩
   ·exact nomatch e
   ·injection e with e1 _;rw [e1]
 byValue:=fun k v h=>by
  rcases qQ h with ⟨i,t,rfl,rfl⟩ | ⟨x,t,rfl,rfl⟩<;>rfl
 pyHash:=fun hv h=>by
  rcases qQ hv with ⟨i,t,rfl,rfl⟩ | ⟨x,t,rfl,rfl⟩
  ·exact wpAny_pyHash_int h
  ·exact wpAny_pyHash_str h
 eqBool:=fun hu hv h=>by
  rcases qQ hu with ⟨i,t,rfl,rfl⟩ | ⟨x,t,rfl,rfl⟩
  ·rcases qQ hv with ⟨j,u,rfl,rfl⟩ | ⟨y,u,rfl,rfl⟩
   ·rw [key_ll] at h;exact wpAny_eqBool_int h
   ·rw [key_lr] at h;exact SeqAt.EqAt.int_str i t y u _ _ _ _ h
  ·rcases qQ hv with ⟨j,u,rfl,rfl⟩ | ⟨y,u,rfl,rfl⟩
   ·rw [key_rl] at h;exact SeqAt.EqAt.str_int x t j u _ _ _ _ h
   ·rw [key_rr] at h;exact wpAny_eqBool_str h
 «strs»:=fun k x t v h=>by
  rcases qQ h with ⟨i,u,rfl,e⟩ | ⟨y,u,rfl,e⟩
  ·exact nomatch e
  ·injection e with e1 _
   subst e1
   cases v<;>rfl
theorem mixKind_int (prog:Program) (w:World) (i:Int) (t:Tok):(jC prog w).is (.inl i) (.int i t)=true:=keyIs_int i t
theorem mixKind_str (prog:Program) (w:World) (x:Str) (t:Tok):(jC prog w).is (.inr x) (.str x t)=true:=keyIs_str x t
end L2
namespace L2
open PySem PySem.Spec PyProof.Rows
inductive V where
 | non | bl (b:Bool) | int (i:Int) | str (x:Str) | byt (b:Array UInt8) | flt (b:UInt64) | ref (a:Addr) | ty (n:String)
 deriving DecidableEq
def RelV:V→Value→Prop
 | .non,u=>u=Value.none
 | .bl b,u=>u=Value.bool b
 | .int i,u=>∃ t,u=Value.int i t
 | .str x,u=>∃ t,u=Value.str x t
 | .byt b,u=>∃ t,u=Value.bytes b t
 | .flt b,u=>∃ t,u=Value.float b t
 | .ref a,u=>u=Value.ref a
 | .ty n,u=>u=Value.type n
abbrev Vals:List V→List Value→Prop:=Paired RelV
theorem Vals.length {xs:List V} {us:List Value} (r:Vals xs us):xs.length=us.length:=Paired.length r
theorem Vals.get:∀ {xs:List V} {us:List Value} {i:Nat} {x:V},Vals xs us→xs[i]?=some x→∃ u,us[i]?=some u∧RelV x u
 | _,_,_,_,.nil,e=>by simp at e
 | _,_,0,_,.cons r _,e=>by simp at e;subst e;exact ⟨_,rfl,r⟩
 | _,_,i + 1,x,.cons _ t,e=>by
  obtain ⟨u,h1,h2⟩:=Vals.get (i:=i) (x:=x) t (by simpa using e)
  exact ⟨u,by simpa using h1,h2⟩
theorem Vals.set {x:V} {u:Value} (r:RelV x u):∀ {xs:List V} {us:List Value} (i:Nat),Vals xs us→Vals (xs.set i x) (us.set i u)
 | _,_,_,.nil=>.nil
 | _,_,0,.cons _ t=>.cons r t
 | _,_,i + 1,.cons q t=>.cons q (Vals.set r i t)
theorem Vals.append:∀ {xs ys:List V} {us ws:List Value},Vals xs us→Vals ys ws→Vals (xs++ys) (us++ws)
 | _,_,_,_,.nil,s=>s
 | _,_,_,_,.cons r t,s=>.cons r (Vals.append t s)
theorem Vals.take:∀ {xs:List V} {us:List Value} (n:Nat),Vals xs us→Vals (xs.take n) (us.take n)
 | _,_,0,_=>.nil
 | _,_,_ + 1,.nil=>.nil
 | _,_,n + 1,.cons r t=>.cons r (Vals.take n t)
theorem Vals.drop:∀ {xs:List V} {us:List Value} (n:Nat),Vals xs us→Vals (xs.drop n) (us.drop n)
 | _,_,0,r=>r
 | _,_,_ + 1,.nil=>.nil
 | _,_,n + 1,.cons _ t=>Vals.drop n t
def RelO:Option V→Option Value→Prop
 | some v,some u=>RelV v u
 | none,none=>True
 | _,_=>False
def KV {κ:Type}:List (κ×V)→List (κ×Value)→Prop:=Paired fun (p:κ×V) (q:κ×Value)=>p.1=q.1∧RelV p.2 q.2
def kV:Key→V
 | .inl i=>.int i
 | .inr x=>.str x
inductive HO where
 /-- a list -/
 | lst (xs:List V)
 /-- a tuple (never changes) -/
 | tup (xs:List V)
 /-- a dict whose keys are ints and texts;one whose keys are tuples of ints and texts (the empty one is both) -/
 | dK (kvs:List (Key×V)) | dT (kvs:List (List Key×V))
 /-- a set of ints: its members,its size -/
 | set (S:Int→Bool) (n:Nat)
 /-- an instance of the class at C,its dict at dx,its attributes -/
 | ins (C dx:Addr) (fs:List (Str×V))
 /-- the dict of the instance at x -/
 | own (x:Addr)
 /-- the dict of an exception -/
 | xd (fs:List (Str×V))
 /-- a bound method,f of x -/
 | met (f x:Addr)
 /-- a range object lo,lo + 1,.. below hi -/
 | rng (lo hi:Int)
 /-- a thing that is known to the object (the script;a dict while a loop walks it): read,never written while it is so -/
 | frz (o:Obj) (u:HO)
 /-- a code object's table -/
 | tbl (ps:Array Value)
 /-- any other thing,by what is true of its one object (a def of one's own: SetO a S n:=HO.ext fun h=>..) -/
 | ext (φ:Heap→Prop)
abbrev Hp:=Addr→Option HO
def upd (H:Hp) (a:Addr) (o:HO):Hp:=fun b=>if b=a then some o else H b
theorem qb {H:Hp} {a:Addr} {o:HO}:upd H a o a=some o:=by unfold upd;rw [if_pos rfl]
theorem qi {H:Hp} {a b:Addr} {o:HO} (h:b≠a):upd H a o b=H b:=by unfold upd;rw [if_neg h]
theorem qaG {H:Hp} {a b:Addr} {o u:HO} (h:H a=some o) (h':H b=some u) (d:o≠u):a≠b:=by
 intro e;subst e;rw [h] at h';exact d (Option.some.inj h')
theorem qx {H:Hp} {a b:Addr} {o:HO} (h:H a=some o) (h':H b=none):a≠b:=by
 intro e;subst e;rw [h] at h';cases h'
section
variable (P:Program) (w:World)
def ObjOk (H:Hp) (h:Heap) (a:Addr):HO→Prop
 | .lst xs=>xs.length≤sizeLine∧∃ (its:List Value) (n:Nat),Vals xs its∧h.get? a=some { cls:=.type "list",data:=.seq its.toArray n }
 | .tup xs=>xs.length≤sizeLine∧∃ its:List Value,Vals xs its∧IsTup h a its.toArray
 | .dK kvs=>kvs.length≤sizeLine∧(a==sysModules)=false∧∃ vs,KV kvs vs∧h.DictOf (jC P w) a vs
 | .dT kvs=>kvs.length≤sizeLine∧(a==sysModules)=false∧∃ xs:List (List Key×Addr×Value),
   Paired (fun (p:List Key×V) (q:List Key×Addr×Value)=>p.1=q.1∧H q.2.1=some (.tup (p.1.map kV))∧RelV p.2 q.2.2) kvs xs ∧
   ∃ o es ep,h.get? a=some o∧o.ExactDict∧o.data=.dict es ep∧es.toList=xs.map (entryOfKey (tupleKind (jC P w)))∧(xs.map (·.1)).Nodup
 | .set S n=>h.SetOf (intKind P w) a S n
 | .ins C dx fs=>H dx=some (.own a)∧fs.length≤1000∧dx≠a∧h.get? a=some (PySem.W.instObj C dx) ∧
   ∃ mA,h.Ns1 dx mA∧(∀ f,RelO (fs.lookup f) (mA f))∧PySem.Within mA (fs.map (·.1))
 | .own _=>∃ o,h.get? a=some o
 | .xd fs=>∃ mA,h.Ns1 a mA∧∀ f,RelO (fs.lookup f) (mA f)
 | .rng lo hi=>∃ t u v,h.get? a=some { cls:=.type "range",data:=.fields #[.int lo t,.int hi u,.int 1 v] }
 | .frz o u=>h.get? a=some o∧ObjOk H h a u
 | .tbl ps=>h.get? a=some { cls:=.none,data:=.fields ps }
 | .met f x=>h.get? a=some (PySem.W.methodObj (.ref f) (.ref x))
 | .ext φ=>φ h∧(∃ o,h.get? a=some o)∧∀ h1 h2:Heap,φ h1→(∀ o,h1.get? a=some o→h2.get? a=some o)→φ h2
def HOk (H:Hp) (h:Heap):Prop:=∀ a o,H a=some o→ObjOk P w H h a o
end
section
variable {P:Program} {w:World} {H H':Hp} {h h':Heap} {a:Addr} {o:HO}
theorem ObjOk.lt (x:ObjOk P w H h a o):a < h.objs.size:=by
 cases o with
 | lst xs=>obtain ⟨_,_,_,_,e⟩:=x;exact Heap.lt_size e
 | tup xs=>obtain ⟨_,_,_,p⟩:=x;exact p.lt
 | dK kvs=>obtain ⟨_,_,_,_,o,_,_,e,_⟩:=x;exact Heap.lt_size e
 | dT kvs=>obtain ⟨_,_,_,_,o,_,_,e,_⟩:=x;exact Heap.lt_size e
 | set S n=>obtain ⟨o,_,_,_,e,_⟩:=x;exact Heap.lt_size e
 | ins C dx fs=>obtain ⟨_,_,_,e,_⟩:=x;exact Heap.lt_size e
 | own y=>obtain ⟨_,e⟩:=x;exact Heap.lt_size e
 | xd fs=>obtain ⟨_,⟨_,_,_,e,_⟩,_⟩:=x;exact Heap.lt_size e
 | rng lo hi=>obtain ⟨_,_,_,e⟩:=x;exact Heap.lt_size e
 | frz ob u=>obtain ⟨e,_⟩:=x;exact Heap.lt_size e
 | tbl ps=>exact Heap.lt_size (show h.get? a=some _ from x)
 | met f y=>exact Heap.lt_size (show h.get? a=some _ from x)
 | ext φ=>obtain ⟨_,⟨_,e⟩,_⟩:=x;exact Heap.lt_size e
theorem Paired.mapP {α β:Type} {F G:α→β→Prop}:∀ {l₁:List α} {l₂:List β},Paired F l₁ l₂→(∀ a b,F a b→G a b)→Paired G l₁ l₂
 | _,_,.nil,_=>.nil
 | _,_,.cons r t,f=>.cons (f _ _ r) (Paired.mapP t f)
theorem ObjOk.stay (x:ObjOk P w H h a o) (k:∀ b u,(b=a∨H b=some (.own a))→h.get? b=some u→h'.get? b=some u)
  (ho:∀ b,H b=some (.own a)→H' b=some (.own a)) (ht:∀ b xs,H b=some (.tup xs)→H' b=some (.tup xs)):ObjOk P w H' h' a o:=by
 induction o with
 | lst xs=>obtain ⟨z,its,n,r,e⟩:=x;exact ⟨z,its,n,r,k _ _ (.inl rfl) e⟩
 | tup xs=>obtain ⟨z,its,r,ob,e,c⟩:=x;exact ⟨z,its,r,ob,k _ _ (.inl rfl) e,c⟩
 | dK kvs=>obtain ⟨z,y,vs,r,ob,es,ep,e,c⟩:=x;exact ⟨z,y,vs,r,ob,es,ep,k _ _ (.inl rfl) e,c⟩
 | dT kvs =>
  obtain ⟨z,y,xs,r,ob,es,ep,e,c⟩:=x
  exact ⟨z,y,xs,Paired.mapP r fun p q z=>⟨z.1,ht _ _ z.2.1,z.2.2⟩,ob,es,ep,k _ _ (.inl rfl) e,c⟩
 | set S n=>obtain ⟨ob,es,ep,t,e,c⟩:=x;exact ⟨ob,es,ep,t,k _ _ (.inl rfl) e,c⟩
 | ins C dx fs =>
  obtain ⟨d,z,ne,e,mA,⟨od,es,ep,e2,c⟩,r⟩:=x
  exact ⟨ho _ d,z,ne,k _ _ (.inl rfl) e,mA,⟨od,es,ep,k _ _ (.inr d) e2,c⟩,r⟩
 | own y=>obtain ⟨ob,e⟩:=x;exact ⟨ob,k _ _ (.inl rfl) e⟩
 | xd fs=>obtain ⟨mA,⟨od,es,ep,e,c⟩,r⟩:=x;exact ⟨mA,⟨od,es,ep,k _ _ (.inl rfl) e,c⟩,r⟩
 | rng lo hi=>obtain ⟨t,u,v,e⟩:=x;exact ⟨t,u,v,k _ _ (.inl rfl) e⟩
 | frz ob u ih=>obtain ⟨e,q⟩:=x;exact ⟨k _ _ (.inl rfl) e,ih q⟩
 | tbl ps =>
  have e:h.get? a=some { cls:=.none,data:=.fields ps }:=x
  show h'.get? a=some { cls:=.none,data:=.fields ps }
  exact k a _ (.inl rfl) e
 | met f y =>
  have e:h.get? a=some (PySem.W.methodObj (.ref f) (.ref y)):=x
  show h'.get? a=some (PySem.W.methodObj (.ref f) (.ref y))
  exact k a _ (.inl rfl) e
 | ext φ=>obtain ⟨p,⟨o,e⟩,st⟩:=x;exact ⟨st _ _ p fun o q=>k _ _ (.inl rfl) q,⟨o,k _ _ (.inl rfl) e⟩,st⟩
theorem HOk.lt (x:HOk P w H h) (e:H a=some o):a < h.objs.size:=(x a o e).lt
theorem HOk.fresh (x:HOk P w H h) (e:h.objs.size≤a):H a=none:=by
 cases q:H a with
 | none=>rfl
 | some u=>exact absurd (Nat.lt_of_lt_of_le (x.lt q) e) (Nat.lt_irrefl _)
theorem HOk.kept (x:HOk P w H h) (k:∀ b u,h.get? b=some u→h'.get? b=some u):HOk P w H h':=fun a o e =>
 (x a o e).stay (fun b u _ q=>k b u q) (fun _ q=>q) fun _ _ q=>q
theorem HOk.laid (x:HOk P w H h) (k:∀ b u,h.get? b=some u→h'.get? b=some u) (hp:h.objs.size≤a) (new:ObjOk P w (upd H a o) h' a o):HOk P w (upd H a o) h':=fun b u e=>by
 have hn:=x.fresh hp
 by_cases hb:b=a
 ·subst hb;rw [qb] at e;cases e;exact new
 ·rw [qi hb] at e
  exact (x b u e).stay (fun c v _ q=>k c v q) (fun c q=>by rw [qi (qx q hn)];exact q) fun c xs q=>by rw [qi (qx q hn)];exact q
end
def Rd (H:Hp) (a:Addr) (u:HO):Prop:=H a=some u∨∃ o,H a=some (.frz o u)
theorem Rd.ok {P:Program} {w:World} {H:Hp} {h:Heap} {a:Addr} {u:HO} (r:Rd H a u) (x:HOk P w H h):ObjOk P w H h a u:=by
 rcases r with r | ⟨o,r⟩
 ·exact x a u r
 ·obtain ⟨_,q⟩:=x a _ r
  exact q
def Mut:Option HO→Prop
 | some (.lst _)=>True
 | some (.dK _)=>True
 | some (.dT _)=>True
 | some (.set _ _)=>True
 | some (.ins _ _ _)=>True
 | some (.ext _)=>True
 | _=>False
section
variable {P:Program} {w:World} {H:Hp} {h h':Heap} {x e:Addr} {o':HO}
theorem HOk.write (ok:HOk P w H h) (mu:Mut (H x)) (he:e=x∨H e=some (.own x)) (k:∀ b u,b≠e→h.get? b=some u→h'.get? b=some u) (heo:∃ u,h'.get? e=some u)
  (new:ObjOk P w (upd H x o') h' x o'):HOk P w (upd H x o') h':=fun b u q=>by
 have nown:∀ c y,H c=some (.own y)→c≠x:=fun c y r z=>by subst z;rw [r] at mu;exact mu
 have ntup:∀ c xs,H c=some (.tup xs)→c≠x:=fun c xs r z=>by subst z;rw [r] at mu;exact mu
 by_cases hb:b=x
 ·subst hb;rw [qb] at q;cases q;exact new
 ·rw [qi hb] at q
  by_cases hbe:b=e
  ·have q':H b=some (.own x):=by
    rcases he with z | z
    ·exact absurd (hbe.trans z) hb
    ·rw [hbe];exact z
   rw [q] at q';cases q'
   obtain ⟨v,hv⟩:=heo
   exact ⟨v,by rw [hbe];exact hv⟩
  ·refine (ok b u q).stay (fun c v hc r=>k c v ?_ r) (fun c r=>by rw [qi (nown c b r)];exact r) fun c xs r=>by rw [qi (ntup c xs r)];exact r
   rcases hc with rfl | hc
   ·exact hbe
   ·rintro rfl
    rcases he with z | z
    ·exact nown c b hc z
    ·rw [hc] at z;cases z;exact hb rfl
end
structure Un (fs ex:List Addr) (H H':Hp) (h h':Heap):Prop where
 keep:∀ b o,h.get? b=some o→H b=none→b∉fs→b∉ex→h'.get? b=some o
 slot:∀ b o,h.get? b=some o→H b=none→b∈fs→b∉ex→∃ sl,h'.get? b=some { o with slots:=sl }
 free:∀ b o,h.get? b=some o→H b=none→b∉ex→H' b=none
 there:∀ b o,h.get? b=some o→b∉ex→∃ o',h'.get? b=some o'
 tups:∀ b xs,H b=some (.tup xs)→H' b=some (.tup xs)
 frzs:∀ b o u,H b=some (.frz o u)→H' b=some (.frz o u)
 tbls:∀ b ps,H b=some (.tbl ps)→∃ more,H' b=some (.tbl (ps++more))
section
variable {fs fs' ex ex':List Addr} {H H1 H2:Hp} {h h1 h2 h':Heap} {a x e:Addr} {o:HO}
theorem Un.any (u:Un fs ex H H1 h h1) {b:Addr} {ob:Obj} (q:h.get? b=some ob) (n:H b=none) (hx:b∉ex):∃ sl,h1.get? b=some { ob with slots:=sl }:=by
 by_cases hb:b∈fs
 ·exact u.slot b ob q n hb hx
 ·exact ⟨ob.slots,u.keep b ob q n hb hx⟩
theorem Un.kept (k:∀ b u,h.get? b=some u→h'.get? b=some u):Un fs ex H H h h':=
 ⟨fun b ob q _ _ _=>k b ob q,fun b ob q _ _ _=>⟨ob.slots,k b ob q⟩,fun _ _ _ n _=>n,fun b ob q _=>⟨ob,k b ob q⟩,fun _ _ q=>q,fun _ _ _ q=>q,fun _ ps q=>⟨#[],by rw [q];simp⟩⟩
theorem Un.refl:Un fs ex H H h h:=Un.kept fun _ _ q=>q
theorem Un.laid (k:∀ b u,h.get? b=some u→h'.get? b=some u) (hp:h.objs.size≤a) (hn:H a=none):Un fs ex H (upd H a o) h h' where
 keep:=fun b u q _ _ _=>k b u q
 slot:=fun b u q _ _ _=>⟨u.slots,k b u q⟩
 free:=fun b u q n _=>by rw [qi (Nat.ne_of_lt (Nat.lt_of_lt_of_le (Heap.lt_size q) hp))];exact n
 there:=fun b u q _=>⟨u,k b u q⟩
 tups:=fun b xs q=>by rw [qi (qx q hn)];exact q
 frzs:=fun b u xs q=>by rw [qi (qx q hn)];exact q
 tbls:=fun b ps q=>⟨#[],by rw [qi (qx q hn),q];simp⟩
theorem Un.write (mu:Mut (H x)) (he:e=x∨H e=some (.own x)) (k:∀ b u,b≠e→h.get? b=some u→h'.get? b=some u) (heo:∃ u,h'.get? e=some u):Un fs ex H (upd H x o) h h':=by
 have hx:∀ b,H b=none→b≠x:=fun b n z=>by subst z;rw [n] at mu;exact mu
 have hb:∀ b,H b=none→b≠e:=fun b n z=>by
  subst z
  rcases he with r | r
  ·exact hx b n r
  ·rw [n] at r;cases r
 have hm:∀ b u,H b=some u→¬ Mut (some u)→b≠x:=fun b u q nm z=>by subst z;rw [q] at mu;exact nm mu
 refine ⟨fun b u q n _ _=>k b u (hb b n) q,fun b u q n _ _=>⟨u.slots,k b u (hb b n) q⟩,fun b u q n _=>by rw [qi (hx b n)];exact n,fun b u q _=>?_,
  fun b xs q=>by rw [qi (hm b _ q fun z=>z)];exact q,fun b u xs q=>by rw [qi (hm b _ q fun z=>z)];exact q,fun b ps q=>⟨#[],by rw [qi (hm b _ q fun z=>z),q];simp⟩⟩
 by_cases hbe:b=e
 ·subst hbe;exact heo
 ·exact ⟨u,k b u hbe q⟩
end
def trk (h:Heap) (H:Hp):List Addr:=(List.range h.objs.size).filter fun a=>(H a).isSome
def qeg (h:Heap) (H:Hp):Heap:=PySem.W.hideAll h (trk h H)
theorem hidT_size (h:Heap) (H:Hp):(qeg h H).objs.size=h.objs.size:=PySem.W.hideAll_size _ _
theorem hidT_get {h:Heap} {H:Hp} {b:Addr} {o:Obj} (e:h.get? b=some o) (n:H b=none):(qeg h H).get? b=some o:=
 PySem.W.hideAll_get _ e fun hm=>by
  have q:(H b).isSome=true:=(List.mem_filter.mp hm).2
  rw [n] at q;simp at q
theorem of_hidT {h:Heap} {H:Hp} {b:Addr} {o:Obj} (e:(qeg h H).get? b=some o):h.get? b=some o∧H b=none:=by
 have e':h.get? b=some o:=PySem.W.of_hideAll (trk h H) e
 refine ⟨e',?_⟩
 cases q:H b with
 | none=>rfl
 | some x =>
  have hm:b∈trk h H:=List.mem_filter.mpr ⟨List.mem_range.mpr (Heap.lt_size e'),by simp [q]⟩
  have z:(qeg h H).get? b=none:=PySem.W.hideAll_none (trk h H) hm
  rw [z] at e;cases e
def allNews (g h:Heap) (L:Addr):List (Addr×Obj):=(List.range h.objs.size).filterMap fun a=>if a=L∨(g.get? a).isSome=true then none else (h.get? a).map fun o=>(a,o)
def rest (g h:Heap) (L d:Addr):List (Addr×Obj):=(allNews g h L).filter fun p=>decide (p.1≠d)
end L2
namespace L2
open PySem PySem.Spec PyProof.Rows
structure Mod (K:PySem.W.Frag) (mg:Str→Option Value) (base:Heap):Prop where
 kin:K.In base
 glob:base.Ns mainGlobals mg
 blt:∃ mb,base.Ns builtinsNs mb∧∀ x:Str,x≠"__name__"→mb x=bootBuiltins x
 nolimit:base.NoLimit
structure Cx where
 prog:Program
 w:World
 K:PySem.W.Frag
 mg:Str→Option Value
 base:Heap
 A:Around
 N:List Str
 s₀:Shared
 H₀:Hp
 env:Env
 outer:List Env
 stack:List Env
 ex:List Addr
 fn:Str→Bool
 calm:Bool
 pn:List (Addr×Obj)
 xe:Value→Shared→Prop
def frs (l:List Env):List Addr:=l.filterMap (·.frame)
abbrev Cx.fs (X:Cx):List Addr:=frs X.outer
def Vis (sc:Scope) (x:Str):Prop:=sc.names.lookup x=some .local∨sc.names.lookup x=some .cell∨sc.names.lookup x=some .free
def Loc (sc:Scope) (x:Str):Prop:=sc.names.lookup x=some .local∨sc.names.lookup x=some .cell
def Look (env:Env) (h:Heap) (m:Str→Option Value) (x:Str) (u:Value):Prop:=
 (env.kindOf x=some .local∧m x=some u)∨((env.kindOf x=some .cell∨env.kindOf x=some .free)∧∃ c,env.cells.lookup x=some c∧h.IsCell c (some u))
structure Cx.Ok (X:Cx):Prop where
 mod:Mod X.K X.mg X.base
 kind:X.env.scope.kind=.function
 glob:X.env.globals=mainGlobals
 blt:X.env.builtins=builtinsNs
 above:X.s₀.heap.objs.size≤X.env.locals
 inj:∀ x y c,X.env.cells.lookup x=some c→X.env.cells.lookup y=some c→x=y
 has:∀ x,(X.env.kindOf x=some .cell∨X.env.kindOf x=some .free)→∃ c,X.env.cells.lookup x=some c
 cab:∀ x c,X.fn x=true→X.env.cells.lookup x=some c→X.s₀.heap.objs.size≤c
 hd:X.calm=true→X.A.handled=none
 frames:X.A.frames=some X.stack
 stk:X.stack=X.outer∨(X.stack=X.env::X.outer∧X.env.frame=some X.env.locals)
 exf:∀ b∈X.ex,b≠X.env.locals∧∀ x c,X.env.cells.lookup x=some c→c≠b
 bs:∀ b o,X.base.get? b=some o→X.s₀.heap.get? b=some o∧X.H₀ b=none
 bsz:X.base.objs.size≤X.s₀.heap.objs.size
 noex:∀ b o,X.base.get? b=some o→b∉X.ex
 exfs:∀ b∈X.ex,b∉X.fs
 funs:X.s₀.heap.FunFrames X.base X.outer
 frf:∀ b∈X.fs,X.H₀ b=none
structure Inv (X:Cx) (pins:List (Addr×Obj)) (σ:List (Option V)) (H:Hp) (s:Shared):Prop where
 ok:X.Ok
 os:s.os=X.s₀.os
 bare:AllBare s.gens
 base:Un X.fs X.ex X.H₀ H X.s₀.heap s.heap
 loc:∃ m,s.heap.Ns X.env.locals m∧∀ (i:Nat) (x:Str) (v:V),X.N[i]?=some x→σ[i]?=some (some v)→Vis X.env.scope x→∃ u,RelV v u∧Look X.env s.heap m x u
 cell:∀ x c,X.env.cells.lookup x=some c→∃ v,s.heap.IsCell c v
 free:H X.env.locals=none
 freeC:∀ x c,X.env.cells.lookup x=some c→H c=none
 pin:∀ p∈X.pn++pins,s.heap.get? p.1=some p.2∧H p.1=none∧p.1≠X.env.locals∧p.1∉X.fs∧∀ v,p.2.data≠.cell v
 hok:HOk X.prog X.w H s.heap
 len:σ.length=X.N.length
section
variable {X:Cx} {pins:List (Addr×Obj)} {σ:List (Option V)} {H H':Hp} {s:Shared} {h':Heap}
theorem Cx.Ok.nofr (ok:X.Ok) {b:Addr} {o:Obj} (e:X.base.get? b=some o):b∉X.fs:=fun hb=>by
 have:=(ok.funs.mem hb).1
 rw [e] at this;cases this
theorem Inv.bs (I:Inv X pins σ H s):∀ b o,X.base.get? b=some o→s.heap.get? b=some o∧H b=none:=fun b o e =>
 ⟨I.base.keep b o (I.ok.bs b o e).1 (I.ok.bs b o e).2 (I.ok.nofr e) (I.ok.noex b o e),I.base.free b o (I.ok.bs b o e).1 (I.ok.bs b o e).2 (I.ok.noex b o e)⟩
theorem Inv.bk (I:Inv X pins σ H s):∀ b o,X.base.get? b=some o→s.heap.get? b=some o:=fun b o e=>(I.bs b o e).1
theorem Inv.mod (I:Inv X pins σ H s):Mod X.K X.mg X.base:=I.ok.mod
theorem Inv.kIn (I:Inv X pins σ H s):X.K.In s.heap:=I.ok.mod.kin.keeps I.bk
theorem Inv.lt (I:Inv X pins σ H s):X.env.locals < s.heap.objs.size:=let ⟨_,hn,_⟩:=I.loc;hn.lt
theorem Inv.sz (I:Inv X pins σ H s):X.s₀.heap.objs.size≤s.heap.objs.size:=Nat.le_trans I.ok.above (Nat.le_of_lt I.lt)
theorem Inv.nofs (I:Inv X pins σ H s) {a:Addr} (h:s.heap.objs.size≤a):a∉X.fs:=fun hb=>by
 obtain ⟨_,o,ho,_⟩:=I.ok.funs.mem hb
 exact absurd (Nat.lt_of_lt_of_le (Heap.lt_size ho) (Nat.le_trans I.sz h)) (Nat.lt_irrefl _)
theorem Inv.cne (I:Inv X pins σ H s):∀ x c,X.env.cells.lookup x=some c→c≠X.env.locals:=fun x c e z=>by
 obtain ⟨v,o,ho,hd⟩:=I.cell x c e
 obtain ⟨m,⟨o',es,ep,ho',hd',_⟩,_⟩:=I.loc
 rw [z,ho'] at ho;cases ho;rw [hd'] at hd;cases hd
theorem Inv.funs (I:Inv X pins σ H s):s.heap.FunFrames X.base X.outer:=by
 have all:∀ (l:List Env),(∀ b∈frs l,b∈X.fs)→X.s₀.heap.FunFrames X.base l→s.heap.FunFrames X.base l:=by
  intro l
  induction l with
  | nil=>intro _ _;trivial
  | cons env r ih =>
   intro hs hl
   obtain ⟨hk,⟨L,o,hf,hn,ho,hd⟩,hr⟩:=hl
   have hL:L∈X.fs:=hs L (by unfold frs;rw [List.filterMap_cons,hf];exact List.mem_cons_self)
   obtain ⟨sl,e⟩:=I.base.slot L o ho (I.ok.frf L hL) hL fun z=>I.ok.exfs L z hL
   exact ⟨hk,⟨L,_,hf,hn,e,hd⟩,ih (fun b hb=>hs b (by unfold frs;rw [List.filterMap_cons,hf];exact List.mem_cons_of_mem _ hb)) hr⟩
 exact all X.outer (fun _ hb=>hb) I.ok.funs
theorem Inv.stack (I:Inv X pins σ H s):s.heap.FunFrames X.base X.stack:=by
 rcases I.ok.stk with e | ⟨e,hf⟩
 ·rw [e];exact I.funs
 ·rw [e]
  obtain ⟨m,hn,_⟩:=I.loc
  refine .cons (by rw [I.ok.kind];decide) hf hn ?_ I.funs
  exact Heap.get?_none_of_le (Nat.le_trans I.ok.bsz I.ok.above)
theorem Inv.stkSub (I:Inv X pins σ H s):∀ b∈frs X.stack,b∈X.env.locals::X.fs:=fun b hb=>by
 rcases I.ok.stk with e | ⟨e,hf⟩
 ·rw [e] at hb;exact List.mem_cons_of_mem _ hb
 ·rw [e] at hb
  unfold frs at hb
  rw [List.filterMap_cons,hf] at hb
  exact hb
theorem Inv.stkFree (I:Inv X pins σ H s):∀ b∈frs X.stack,H b=none:=fun b hb=>by
 rcases List.mem_cons.mp (I.stkSub b hb) with e | hb
 ·rw [e];exact I.free
 ·obtain ⟨_,o,ho,_⟩:=I.ok.funs.mem hb
  exact I.base.free b o ho (I.ok.frf b hb) fun z=>I.ok.exfs b z hb
theorem Inv.step {g':Array GenState} {t':Nat} {d':Drawn} {ch:List Addr} (I:Inv X pins σ H s)
  (hch:∀ b∈ch,(b∈X.ex∨X.s₀.heap.objs.size≤b)∧b≠X.env.locals∧(∀ x c,X.env.cells.lookup x=some c→c≠b)∧∀ p∈X.pn++pins,p.1≠b)
  (keep:∀ b o,b≠X.env.locals→b∉X.fs→b∉ch→s.heap.get? b=some o→H b=none→h'.get? b=some o)
  (slot:∀ b o,b≠X.env.locals→b∈X.fs→b∉ch→s.heap.get? b=some o→H b=none→∃ sl,h'.get? b=some { o with slots:=sl }) (free:∀ b o,b∉ch→s.heap.get? b=some o→H b=none→H' b=none)
  (there:∀ b o,b∉ch→s.heap.get? b=some o→∃ o',h'.get? b=some o')
  (tups:∀ b xs,H b=some (.tup xs)→H' b=some (.tup xs)) (frzs:∀ b o u,H b=some (.frz o u)→H' b=some (.frz o u)) (tbls:∀ b ps,H b=some (.tbl ps)→∃ more,H' b=some (.tbl (ps++more)))
  (ns:∀ m,s.heap.Ns X.env.locals m→h'.Ns X.env.locals m) (hok:HOk X.prog X.w H' h') (hg:AllBare g') :
  Inv X pins σ H' { s with heap:=h',gens:=g',drawn:=d',toks:=t' }:=by
 have neL:∀ b o,X.s₀.heap.get? b=some o→b≠X.env.locals:=fun b o e=>Nat.ne_of_lt (Nat.lt_of_lt_of_le (Heap.lt_size e) I.ok.above)
 have neC:∀ b o,X.s₀.heap.get? b=some o→b∉X.ex→b∉ch:=fun b o e hx hb=>by
  rcases (hch b hb).1 with z | z
  ·exact hx z
  ·exact absurd (Nat.lt_of_lt_of_le (Heap.lt_size e) z) (Nat.lt_irrefl _)
 have cellK:∀ x c,X.env.cells.lookup x=some c→∀ v,s.heap.IsCell c v→h'.IsCell c v:=fun x c e v ⟨o,ho,hd⟩=>by
  have nch:c∉ch:=fun z=>(hch c z).2.2.1 x c e rfl
  by_cases hc:c∈X.fs
  ·obtain ⟨sl,q⟩:=slot c o (I.cne x c e) hc nch ho (I.freeC x c e)
   exact ⟨_,q,hd⟩
  ·exact ⟨o,keep c o (I.cne x c e) hc nch ho (I.freeC x c e),hd⟩
 refine ⟨I.ok,I.os,hg,⟨fun b o e n hb hx=>?_,fun b o e n hb hx=>?_,fun b o e n hx=>?_,fun b o e hx=>?_,fun b xs e=>tups b xs (I.base.tups b xs e),fun b o xs e=>frzs b o xs (I.base.frzs b o xs e),fun b ps e=>?_⟩,?_,fun x c e=>?_,?_,fun x c e=>?_,fun p hp=>?_,hok,I.len⟩
 ·exact keep b o (neL b o e) hb (neC b o e hx) (I.base.keep b o e n hb hx) (I.base.free b o e n hx)
 ·obtain ⟨sl,e1⟩:=I.base.slot b o e n hb hx
  obtain ⟨sl',e2⟩:=slot b _ (neL b o e) hb (neC b o e hx) e1 (I.base.free b o e n hx)
  exact ⟨sl',e2⟩
 ·obtain ⟨o',e1⟩:=I.base.there b o e hx
  exact free b o' (neC b o e hx) e1 (I.base.free b o e n hx)
 ·obtain ⟨o',e1⟩:=I.base.there b o e hx
  exact there b o' (neC b o e hx) e1
 ·obtain ⟨m1,e1⟩:=I.base.tbls b ps e
  obtain ⟨m2,e2⟩:=tbls b _ e1
  exact ⟨m1++m2,by rw [e2,Array.append_assoc]⟩
 ·obtain ⟨m,hn,hl⟩:=I.loc
  refine ⟨m,ns m hn,fun i x v e1 e2 e3=>?_⟩
  obtain ⟨u,r,l⟩:=hl i x v e1 e2 e3
  refine ⟨u,r,?_⟩
  rcases l with l | ⟨k,c,e,z⟩
  ·exact .inl l
  ·exact .inr ⟨k,c,e,cellK x c e _ z⟩
 ·obtain ⟨v,z⟩:=I.cell x c e
  exact ⟨v,cellK x c e v z⟩
 ·obtain ⟨m,⟨o,_,_,ho,_⟩,_⟩:=I.loc
  exact free _ o (fun z=>(hch _ z).2.1 rfl) ho I.free
 ·obtain ⟨v,o,ho,hd⟩:=I.cell x c e
  exact free c o (fun z=>(hch c z).2.2.1 x c e rfl) ho (I.freeC x c e)
 ·obtain ⟨e,n,ne,nf,d⟩:=I.pin p hp
  have nch:p.1∉ch:=fun z=>(hch p.1 z).2.2.2 p hp rfl
  exact ⟨keep p.1 p.2 ne nf nch e n,free p.1 p.2 nch e n,ne,nf,d⟩
theorem Inv.un {t':Nat} (I:Inv X pins σ H s) (u:Un X.fs [] H H' s.heap h') (hok:HOk X.prog X.w H' h'):Inv X pins σ H' { s with heap:=h',toks:=t' }:=by
 obtain ⟨m,⟨o,es,ep,ho,r⟩,_⟩:=id I.loc
 obtain ⟨sl,hL⟩:=u.any ho I.free (by simp)
 exact I.step (g':=s.gens) (d':=s.drawn) (ch:=[]) (fun _ z=>nomatch z) (fun b o _ hb _ e n=>u.keep b o e n hb (by simp)) (fun b o _ hb _ e n=>u.slot b o e n hb (by simp)) (fun b o _ e n=>u.free b o e n (by simp)) (fun b o _ e=>u.there b o e (by simp)) u.tups u.frzs u.tbls (fun m' hm=>by
  obtain ⟨o',es',ep',ho',r'⟩:=hm
  rw [ho] at ho';cases ho'
  exact ⟨_,es',ep',hL,r'⟩) hok I.bare
theorem Inv.call {g':Array GenState} {t':Nat} {d':Drawn} {ch:List Addr} (I:Inv X pins σ H s) (u:Un (frs X.stack) ch H H' s.heap h') (hok:HOk X.prog X.w H' h') (hg:AllBare g')
  (hch:∀ b∈ch,(b∈X.ex∨X.s₀.heap.objs.size≤b)∧b≠X.env.locals∧(∀ x c,X.env.cells.lookup x=some c→c≠b)∧∀ p∈X.pn++pins,p.1≠b) :
  Inv X pins σ H' { s with heap:=h',gens:=g',drawn:=d',toks:=t' }:=by
 obtain ⟨m,⟨o,es,ep,ho,r⟩,_⟩:=id I.loc
 obtain ⟨sl,hL⟩:=u.any ho I.free fun z=>(hch _ z).2.1 rfl
 exact I.step (ch:=ch) hch (fun b o hL hb hc e n=>u.keep b o e n (fun z=>(List.mem_cons.mp (I.stkSub b z)).elim hL hb) hc) (fun b o _ _ hc e n=>u.any e n hc) (fun b o hc e n=>u.free b o e n hc) (fun b o hc e=>u.there b o e hc) u.tups u.frzs u.tbls (fun m' hm=>by
  obtain ⟨o',es',ep',ho',r'⟩:=hm
  rw [ho] at ho';cases ho'
  exact ⟨_,es',ep',hL,r'⟩) hok hg
theorem Inv.turned {t':Nat} {it:Addr} (I:Inv X pins σ H s) (k:∀ b o,b≠it→s.heap.get? b=some o→h'.get? b=some o) (hn:H it=none) (hL:it≠X.env.locals)
  (h1:it∈X.ex∨X.s₀.heap.objs.size≤it) (h2:∀ x c,X.env.cells.lookup x=some c→c≠it) (h3:∀ p∈X.pn++pins,p.1≠it):Inv X pins σ H { s with heap:=h',toks:=t' }:=by
 have nit:∀ b u,H b=some u→b≠it:=fun b u e z=>by rw [z,hn] at e;cases e
 refine I.step (g':=s.gens) (d':=s.drawn) (ch:=[it]) (fun b hb=>?_) (fun b o _ _ hc e _=>k b o (fun z=>hc (by simp [z])) e) (fun b o _ _ hc e _=>⟨o.slots,k b o (fun z=>hc (by simp [z])) e⟩) (fun _ _ _ _ n=>n)
  (fun b o hc e=>⟨o,k b o (fun z=>hc (by simp [z])) e⟩) (fun _ _ e=>e) (fun _ _ _ e=>e) (fun b ps e=>⟨#[],by rw [e];simp⟩) (fun m hm=>?_) (fun b u e=>?_) I.bare
 ·have e:b=it:=by simpa using hb
  subst e
  exact ⟨h1,hL,h2,h3⟩
 ·obtain ⟨o,es,ep,ho,r⟩:=hm
  exact ⟨o,es,ep,k _ o (Ne.symm hL) ho,r⟩
 ·refine (I.hok b u e).stay (fun c v hc q=>k c v ?_ q) (fun _ q=>q) fun _ _ q=>q
  rcases hc with z | z
  ·rw [z];exact nit b u e
  ·exact nit c _ z
theorem Inv.tok (I:Inv X pins σ H s) (t:Nat):Inv X pins σ H { s with toks:=t }:=I.un (h':=s.heap) (t':=t) Un.refl I.hok
theorem Inv.kept {t':Nat} (I:Inv X pins σ H s) (k:∀ b u,s.heap.get? b=some u→h'.get? b=some u):Inv X pins σ H { s with heap:=h',toks:=t' }:=I.un (Un.kept k) (I.hok.kept k)
theorem Inv.laid {a:Addr} {o:HO} {t':Nat} (I:Inv X pins σ H s) (k:∀ b u,s.heap.get? b=some u→h'.get? b=some u) (hp:s.heap.objs.size≤a) (new:ObjOk X.prog X.w (upd H a o) h' a o) :
  Inv X pins σ (upd H a o) { s with heap:=h',toks:=t' }:=I.un (Un.laid k hp (I.hok.fresh hp)) (I.hok.laid k hp new)
theorem Inv.write {x e:Addr} {o:HO} {t':Nat} (I:Inv X pins σ H s) (mu:Mut (H x)) (he:e=x∨H e=some (.own x)) (k:∀ b u,b≠e→s.heap.get? b=some u→h'.get? b=some u) (heo:∃ u,h'.get? e=some u)
  (new:ObjOk X.prog X.w (upd H x o) h' x o):Inv X pins σ (upd H x o) { s with heap:=h',toks:=t' }:=I.un (Un.write mu he k heo) (I.hok.write mu he k heo new)
theorem Inv.weak {σ':List (Option V)} (I:Inv X pins σ H s) (hl:σ'.length=σ.length) (w:∀ (i:Nat) v,σ'[i]?=some (some v)→σ[i]?=some (some v)):Inv X pins σ' H s:=
 ⟨I.ok,I.os,I.bare,I.base,let ⟨m,hn,hl'⟩:=I.loc;⟨m,hn,fun i x v e1 e2 e3=>hl' i x v e1 (w i v e2) e3⟩,I.cell,I.free,I.freeC,I.pin,I.hok,hl.trans I.len⟩
theorem Inv.pins_of {pins':List (Addr×Obj)} (I:Inv X pins σ H s) (h:∀ p∈pins',s.heap.get? p.1=some p.2∧H p.1=none∧p.1≠X.env.locals∧p.1∉X.fs∧∀ v,p.2.data≠.cell v):Inv X pins' σ H s:=
 ⟨I.ok,I.os,I.bare,I.base,I.loc,I.cell,I.free,I.freeC,fun p hp=>(List.mem_append.mp hp).elim (fun z=>I.pin p (List.mem_append_left _ z)) (h p),I.hok,I.len⟩
theorem qbq {N:List Str} (hN:N.Nodup) {i j:Nat} {x:Str} (a:N[i]?=some x) (b:N[j]?=some x):i=j:=by
 obtain ⟨h1,e1⟩:=List.getElem?_eq_some_iff.mp a
 obtain ⟨h2,e2⟩:=List.getElem?_eq_some_iff.mp b
 exact (List.getElem_inj hN).mp (e1.trans e2.symm)
theorem qbD {M:Model} {A:Around} {E:Value→Shared→Prop} {i:Nat} {x:Str} {v:V} {u:Value} {Q:Unit→Shared→Prop} (I:Inv X pins σ H s) (hN:X.N.Nodup) (hi:X.N[i]?=some x) (hx:Loc X.env.scope x) (r:RelV v u)
  (h:∀ s',Inv X pins (σ.set i (some v)) H s'→(∃ a,Heap.SameBut a s.heap s'.heap∧(a=X.env.locals∨X.env.cells.lookup x=some a))→Q () s') (hf:X.fn x=true∨X.env.scope.names.lookup x=some .local:=by first | exact .inl rfl | exact .inr rfl | assumption):wpAny M A (storeName X.env x u) Q E s:=by
 obtain ⟨m,hn,hl⟩:=id I.loc
 have hcls:(X.env.scope.kind==.class||(X.env.scope.kind==.module&&X.env.locals != X.env.globals))=false:=by rw [I.ok.kind];rfl
 have hiσ:i < σ.length:=by rw [I.len];exact (List.getElem?_eq_some_iff.mp hi).1
 have cne:=I.cne
 have tracked:∀ {a:Addr} {h':Heap},(∃ o,s.heap.get? a=some o∧H a=none)→Heap.SameBut a s.heap h'→HOk X.prog X.w H h':=fun {a h'} ha hs b ob e=>by
  obtain ⟨_,_,hfree⟩:=ha
  refine (I.hok b ob e).stay (fun c w' hc q=>(hs.2 c ?_).trans q) (fun _ q=>q) fun _ _ q=>q
  rintro rfl
  rcases hc with rfl | hc
  ·rw [hfree] at e;cases e
  ·rw [hfree] at hc;cases hc
 rcases hx with hk | hk
 ·refine wpAny_storeName_local hk hn (fun h' hn' hs=>?_) hcls
  obtain ⟨oL,_,_,hoL,_⟩:=id hn
  refine h _ ⟨I.ok,I.os,I.bare,⟨fun b o e n hb hx=>?_,fun b o e n hb hx=>?_,I.base.free,fun b o e hx=>?_,I.base.tups,I.base.frzs,I.base.tbls⟩,⟨_,hn',fun j y v' e1 e2 e3=>?_⟩,fun y c e=>?_,I.free,I.freeC,fun p hp=>?_,tracked ⟨oL,hoL,I.free⟩ hs,by simpa using I.len⟩ ⟨_,hs,.inl rfl⟩
  ·exact (hs.2 b (Nat.ne_of_lt (Nat.lt_of_lt_of_le (Heap.lt_size e) I.ok.above))).trans (I.base.keep b o e n hb hx)
  ·obtain ⟨sl,e1⟩:=I.base.slot b o e n hb hx
   exact ⟨sl,(hs.2 b (Nat.ne_of_lt (Nat.lt_of_lt_of_le (Heap.lt_size e) I.ok.above))).trans e1⟩
  ·obtain ⟨o',e1⟩:=I.base.there b o e hx
   exact ⟨o',(hs.2 b (Nat.ne_of_lt (Nat.lt_of_lt_of_le (Heap.lt_size e) I.ok.above))).trans e1⟩
  ·by_cases hj:j=i
   ·subst hj
    rw [hi] at e1;cases e1
    rw [List.getElem?_set_self hiσ] at e2
    cases e2
    exact ⟨u,r,.inl ⟨hk,by simp⟩⟩
   ·rw [List.getElem?_set_ne (Ne.symm hj)] at e2
    obtain ⟨u',r',q⟩:=hl j y v' e1 e2 e3
    refine ⟨u',r',?_⟩
    rcases q with ⟨k,e⟩ | ⟨k,c,e,z⟩
    ·refine .inl ⟨k,?_⟩
     have:y≠x:=fun e=>hj (qbq hN e1 (e ▸ hi))
     simp [this,e]
    ·exact .inr ⟨k,c,e,z.sameBut hs (cne y c e)⟩
  ·obtain ⟨w',z⟩:=I.cell y c e
   exact ⟨w',z.sameBut hs (cne y c e)⟩
  ·obtain ⟨e,n,ne,nf,d⟩:=I.pin p hp
   exact ⟨(hs.2 p.1 ne).trans e,n,ne,nf,d⟩
 ·have hfn:X.fn x=true:=by
   rcases hf with z | z
   ·exact z
   ·rw [z] at hk;cases hk
  obtain ⟨c,hc⟩:=I.ok.has x (.inl hk)
  obtain ⟨w',z⟩:=I.cell x c hc
  refine wpAny_storeName_cell I.ok.kind hk hc z (fun h' hc' hs=>?_)
  obtain ⟨oc,hoc,hocd⟩:=id z
  refine h { s with heap:=h' } ⟨I.ok,I.os,I.bare,⟨fun b o e n hb hx=>?_,fun b o e n hb hx=>?_,I.base.free,fun b o e hx=>?_,I.base.tups,I.base.frzs,I.base.tbls⟩,⟨m,hn.sameBut hs (Ne.symm (cne x c hc)),fun j y v' e1 e2 e3=>?_⟩,fun y c' e=>?_,I.free,I.freeC,fun p hp=>?_,tracked ⟨oc,hoc,I.freeC x c hc⟩ hs,by simpa using I.len⟩ ⟨c,hs,.inr hc⟩
  ·exact (hs.2 b (Nat.ne_of_lt (Nat.lt_of_lt_of_le (Heap.lt_size e) (I.ok.cab x c hfn hc)))).trans (I.base.keep b o e n hb hx)
  ·obtain ⟨sl,e1⟩:=I.base.slot b o e n hb hx
   exact ⟨sl,(hs.2 b (Nat.ne_of_lt (Nat.lt_of_lt_of_le (Heap.lt_size e) (I.ok.cab x c hfn hc)))).trans e1⟩
  ·obtain ⟨o',e1⟩:=I.base.there b o e hx
   exact ⟨o',(hs.2 b (Nat.ne_of_lt (Nat.lt_of_lt_of_le (Heap.lt_size e) (I.ok.cab x c hfn hc)))).trans e1⟩
  ·by_cases hj:j=i
   ·subst hj
    rw [hi] at e1;cases e1
    rw [List.getElem?_set_self hiσ] at e2
    cases e2
    exact ⟨u,r,.inr ⟨.inl hk,c,hc,hc'⟩⟩
   ·rw [List.getElem?_set_ne (Ne.symm hj)] at e2
    obtain ⟨u',r',q⟩:=hl j y v' e1 e2 e3
    refine ⟨u',r',?_⟩
    rcases q with q | ⟨k,c',e,z'⟩
    ·exact .inl q
    ·refine .inr ⟨k,c',e,z'.sameBut hs ?_⟩
     rintro rfl
     exact hj (qbq hN e1 (I.ok.inj _ _ _ e hc ▸ hi))
  ·by_cases hcc:c'=c
   ·subst hcc;exact ⟨_,hc'⟩
   ·obtain ⟨w2,z2⟩:=I.cell y c' e
    exact ⟨w2,z2.sameBut hs hcc⟩
  ·obtain ⟨e,n,ne,nf,d⟩:=I.pin p hp
   refine ⟨(hs.2 p.1 ?_).trans e,n,ne,nf,d⟩
   intro q
   rw [q,hoc] at e
   have q':oc=p.2:=Option.some.inj e
   exact d w' (by rw [← q'];exact hocd)
theorem qaK {M:Model} {A:Around} {E:Value→Shared→Prop} {i:Nat} {x:Str} {v:V} {u:Value} {Q:Unit→Shared→Prop} (I:Inv X pins σ H s) (hN:X.N.Nodup) (hi:X.N[i]?=some x) (hx:Loc X.env.scope x) (r:RelV v u)
  (h:∀ s',Inv X pins (σ.set i (some v)) H s'→Q () s') (hf:X.fn x=true∨X.env.scope.names.lookup x=some .local:=by first | exact .inl rfl | exact .inr rfl | assumption):wpAny M A (storeName X.env x u) Q E s:=
 qbD I hN hi hx r (fun s' I' _=>h s' I') hf
theorem Inv.call' {s':Shared} {ch:List Addr} (I:Inv X pins σ H s) (ho:s'.os=s.os) (u:Un (frs X.stack) ch H H' s.heap s'.heap) (hok:HOk X.prog X.w H' s'.heap) (hg:AllBare s'.gens)
  (hch:∀ b∈ch,(b∈X.ex∨X.s₀.heap.objs.size≤b)∧b≠X.env.locals∧(∀ x c,X.env.cells.lookup x=some c→c≠b)∧∀ p∈X.pn++pins,p.1≠b):Inv X pins σ H' s':=by
 obtain ⟨h',g',d',t',o'⟩:=s'
 have e:o'=s.os:=ho
 subst e
 exact I.call (g':=g') (t':=t') (d':=d') u hok hg hch
end
abbrev XK:=Value→Option Addr→Hp→Prop
abbrev St:=List (Option V)
abbrev VK:=V→Hp→Prop
abbrev TE:=St→Hp→VK→Prop
abbrev TT:=St→Hp→(Bool→Hp→Prop)→Prop
abbrev TA:=St→Hp→(List V→Hp→Prop)→Prop
structure Ends where
 nx:St→Hp→Prop
 rt:VK
 bk:St→Hp→Prop:=fun _ _=>False
 ct:St→Hp→Prop:=fun _ _=>False
abbrev TS:=Ends→St→Hp→Prop
def EP (X:Cx) (pins:List (Addr×Obj)) (σ:St) (Q:VK) (u:Value) (s':Shared):Prop:=∃ v H',Inv X pins σ H' s'∧RelV v u∧Q v H'
def TP (X:Cx) (pins:List (Addr×Obj)) (σ:St) (Q:Bool→Hp→Prop) (b:Bool) (s':Shared):Prop:=∃ H',Inv X pins σ H' s'∧Q b H'
def AP (X:Cx) (pins:List (Addr×Obj)) (σ:St) (Q:List V→Hp→Prop) (us:List Value) (s':Shared):Prop:=∃ vs H',Inv X pins σ H' s'∧Vals vs us∧Q vs H'
def SP (X:Cx) (pins:List (Addr×Obj)) (D:Ends) (f:Flow) (s':Shared):Prop:=
 match f with
 | .next=>∃ σ' H',Inv X pins σ' H' s'∧D.nx σ' H'
 | .brk=>∃ σ' H',Inv X pins σ' H' s'∧D.bk σ' H'
 | .cont=>∃ σ' H',Inv X pins σ' H' s'∧D.ct σ' H'
 | .ret u=>∃ v σ' H',Inv X pins σ' H' s'∧RelV v u∧D.rt v H'
def PE (X:Cx) (e:Expr) (t:TE):Prop:=
 ∀ (pins:List (Addr×Obj)) (s:Shared) (σ:St) (H:Hp) (Q:VK),Inv X pins σ H s→t σ H Q→wpAny (model X.prog X.w) X.A (eval e X.env) (EP X pins σ Q) X.xe s
def PT (X:Cx) (e:Expr) (t:TT):Prop:=
 ∀ (pins:List (Addr×Obj)) (s:Shared) (σ:St) (H:Hp) (Q:Bool→Hp→Prop),Inv X pins σ H s→t σ H Q→wpAny (model X.prog X.w) X.A (isTrue e X.env (eval e X.env)) (TP X pins σ Q) X.xe s
def PW (X:Cx) (e:Expr) (t:TT):Prop:=
 ∀ (whole:Sem Value) (pins:List (Addr×Obj)) (s:Shared) (σ:St) (H:Hp) (Q:Bool→Hp→Prop),Inv X pins σ H s→t σ H Q→wpAny (model X.prog X.w) X.A (isTrue e X.env whole) (TP X pins σ Q) X.xe s
theorem PW.pt {X:Cx} {e:Expr} {t:TT} (h:PW X e t):PT X e t:=h _
def PA (X:Cx) (es:List Expr) (t:TA):Prop:=
 ∀ (pos:Pos) (pins:List (Addr×Obj)) (s:Shared) (σ:St) (H:Hp) (Q:List V→Hp→Prop),Inv X pins σ H s→t σ H Q→wpAny (model X.prog X.w) X.A (spliced (backTo pos (starEach es X.env))) (AP X pins σ Q) X.xe s
def PS (X:Cx) (st:Stmt) (t:TS):Prop:=
 ∀ (pins:List (Addr×Obj)) (s:Shared) (σ:St) (H:Hp) (D:Ends),Inv X pins σ H s→t D σ H→wpAny (model X.prog X.w) X.A (exec st X.env) (SP X pins D) X.xe s
def PSs (X:Cx) (st:List Stmt) (t:TS):Prop:=
 ∀ (pins:List (Addr×Obj)) (s:Shared) (σ:St) (H:Hp) (D:Ends),Inv X pins σ H s→t D σ H→wpAny (model X.prog X.w) X.A (execs st X.env) (SP X pins D) X.xe s
theorem thn {α:Type} {t:Sem α} {Q Q':α→Shared→Prop} {M:Model} {A:Around} {E:Value→Shared→Prop} {s:Shared} (h:wpAny M A t Q E s) (hQ:∀ a s,Q a s→Q' a s):wpAny M A t Q' E s:=wpAny_mono h hQ fun _ _ x=>x
end L2
namespace L2
open PySem PySem.Spec PyProof.Rows
section
variable {X:Cx}
def qfX (i:Nat):TE:=fun σ H Q=>∃ v,σ[i]?=some (some v)∧Q v H
def tC (v:V):TE:=fun _ H Q=>Q v H
theorem pe_var {i:Nat} {x:Str} {pos:Pos} (hN:X.N[i]?=some x) (hv:Vis X.env.scope x) (hd:(x==("__debug__":Str))=false:=by decide) (hcd:(x==("__classdict__":Str))=false:=by decide):PE X (.Name x pos) (qfX i):=by
 intro pins s σ H Q I h
 obtain ⟨v,e,h⟩:=h
 obtain ⟨m,hn,hl⟩:=I.loc
 obtain ⟨u,r,l⟩:=hl i x v hN e hv
 have fin:EP X pins σ Q u s:=⟨v,H,I,r,h⟩
 rcases l with ⟨hk,hm⟩ | ⟨hk,c,hc,hcell⟩
 ·exact wpAny_Name (wpAny_loadName_local I.ok.kind hk hn hm fin) hd
 ·rcases hk with hk | hk
  ·exact wpAny_Name (wpAny_loadName_cell I.ok.kind hk hc hcell fin) hd
  ·exact wpAny_Name (wpAny_loadName_free I.ok.kind hk hc hcell fin hcd) hd
theorem qg {i j pos}:PE X (.Constant (.int i) j pos) (tC (.int i)):=fun _ _ _ H _ I h=>wpAny_Constant_int ⟨.int i,H,I.tok _,⟨_,rfl⟩,h⟩
theorem zA {b j pos}:PE X (.Constant (.bool b) j pos) (tC (.bl b)):=fun _ _ _ H _ I h=>Constant_bool ⟨.bl b,H,I,rfl,h⟩
theorem qdu {j pos}:PE X (.Constant .none j pos) (tC .non):=fun _ _ _ H _ I h=>Constant_none ⟨.non,H,I,rfl,h⟩
theorem jJ {x j pos}:PE X (.Constant (.str x) j pos) (tC (.str x)):=fun _ _ _ H _ I h=>Calls.Constant_str ⟨.str x,H,I.tok _,⟨_,rfl⟩,h⟩
def Gl (X:Cx) (x:Str):Prop:=X.env.kindOf x=some .globalImplicit
theorem zl {E:Value→Shared→Prop} {pins:List (Addr×Obj)} {s:Shared} {σ:St} {H:Hp} {x:Str} {u:Value} {pos:Pos} {Q:Value→Shared→Prop} (I:Inv X pins σ H s) (hg:Gl X x) (hm:X.mg x=some u) (h:Q u s)
  (hd:(x==("__debug__":Str))=false:=by decide):wpAny (model X.prog X.w) X.A (eval (.Name x pos) X.env) Q E s:=
 Calls.Name_function_global I.ok.kind hg (Calls.loadGlobal_global (by rw [I.ok.glob];exact I.mod.glob.keeps I.bk) hm h) hd
theorem qaT {E:Value→Shared→Prop} {pins:List (Addr×Obj)} {s:Shared} {σ:St} {H:Hp} {x:Str} {u:Value} {pos:Pos} {Q:Value→Shared→Prop} (I:Inv X pins σ H s) (hg:Gl X x) (hm:X.mg x=none) (hv:bootBuiltins x=some u) (h:Q u s)
  (hn:x≠"__name__":=by decide) (hd:(x==("__debug__":Str))=false:=by decide):wpAny (model X.prog X.w) X.A (eval (.Name x pos) X.env) Q E s:=by
 obtain ⟨mb,h1,h2⟩:=I.mod.blt
 exact Calls.Name_function_global I.ok.kind hg (Calls.loadGlobal_builtin (by rw [I.ok.glob];exact I.mod.glob.keeps I.bk) hm (by rw [I.ok.blt];exact h1.keeps I.bk) ((h2 x hn).trans hv) h) hd
theorem qcj {x:Str} {v:V} {u:Value} {pos:Pos} (hg:Gl X x) (hm:X.mg x=some u) (r:RelV v u) (hd:(x==("__debug__":Str))=false:=by decide):PE X (.Name x pos) (tC v):=
 fun _ _ _ H _ I h=>zl I hg hm ⟨v,H,I,r,h⟩ hd
theorem jQ {x:Str} {v:V} {u:Value} {pos:Pos} (hg:Gl X x) (hm:X.mg x=none) (hv:bootBuiltins x=some u) (r:RelV v u) (hn:x≠"__name__":=by decide) (hd:(x==("__debug__":Str))=false:=by decide):PE X (.Name x pos) (tC v):=
 fun _ _ _ H _ I h=>qaT I hg hm hv ⟨v,H,I,r,h⟩ hn hd
variable {a b:Expr} {ta tb:TE} {pos:Pos}
def tB (t:TE):TT:=fun σ H Q=>t σ H fun x H1=>∃ c,x=.bl c∧Q c H1
theorem jr {e:Expr} {t:TE} (h:PE X e t) (he:∀ whole,isTrue e X.env whole=(do let v ← whole;standAt e.pos;holding [v] (truthy v)):=by intro _;rfl):PT X e (tB t):=by
 intro pins s σ H Q I hw
 refine isTrue_plain (thn (h pins s σ H _ I hw) fun v s1 ⟨x,H1,I1,r1,q1⟩=>?_) (he _)
 obtain ⟨d,rfl,q⟩:=q1
 cases r1
 exact wpAny_truthy_bool ⟨H1,I1,q⟩
variable {tA tB':TT} {rest:List Expr}
def qf8 (t u:TT):TT:=fun σ H Q=>t σ H fun c H1=>if c=true then u σ H1 Q else Q false H1
def tOr (t u:TT):TT:=fun σ H Q=>t σ H fun c H1=>if c=true then Q true H1 else u σ H1 Q
def qf9 (t:TT):TT:=fun σ H Q=>t σ H fun c H1=>Q (!c) H1
theorem qck (ha:PT X a tA):PW X (.BoolOp .And [a] pos) tA:=by
 intro wh pins s σ H Q I h
 refine isTrue_and (thn (ha pins s σ H Q I h) fun c s1 e=>?_)
 cases c with
 | true=>exact isTrue_and_nil e
 | false=>exact e
theorem qbg (ha:PT X a tA):PW X (.BoolOp .Or [a] pos) tA:=by
 intro wh pins s σ H Q I h
 refine isTrue_or (thn (ha pins s σ H Q I h) fun c s1 e=>?_)
 cases c with
 | false=>exact isTrue_or_nil e
 | true=>exact e
theorem qbE (ha:PT X a tA) (hb:PW X (.BoolOp .And (b::rest) pos) tB'):PW X (.BoolOp .And (a::b::rest) pos) (qf8 tA tB'):=by
 intro wh pins s σ H Q I h
 refine isTrue_and (thn (ha pins s σ H _ I h) fun c s1 ⟨H1,I1,q1⟩=>?_)
 cases c with
 | true=>exact hb wh pins s1 σ H1 Q I1 q1
 | false=>exact ⟨H1,I1,q1⟩
theorem qcl (ha:PT X a tA) (hb:PW X (.BoolOp .Or (b::rest) pos) tB'):PW X (.BoolOp .Or (a::b::rest) pos) (tOr tA tB'):=by
 intro wh pins s σ H Q I h
 refine isTrue_or (thn (ha pins s σ H _ I h) fun c s1 ⟨H1,I1,q1⟩=>?_)
 cases c with
 | true=>exact ⟨H1,I1,q1⟩
 | false=>exact hb wh pins s1 σ H1 Q I1 q1
theorem jK (ha:PT X a tA):PT X (.UnaryOp .Not a pos) (qf9 tA):=by
 intro pins s σ H Q I h
 exact isTrue_not (ha pins s σ H (fun c H1=>Q (!c) H1) I h)
def qfc (ta tb:TE):TE:=fun σ H Q=>ta σ H fun x H1=>∃ c,x=.bl c∧if c=true then tb σ H1 Q else Q (.bl false) H1
def tOrV (ta tb:TE):TE:=fun σ H Q=>ta σ H fun x H1=>∃ c,x=.bl c∧if c=true then Q (.bl true) H1 else tb σ H1 Q
def tNotV (ta:TE):TE:=fun σ H Q=>ta σ H fun x H1=>∃ c,x=.bl c∧Q (.bl (!c)) H1
theorem qdv {op} {t:TE} (h:PE X a t):PE X (.BoolOp op [a] pos) t:=fun pins s σ H Q I hw=>BoolOp_one (h pins s σ H Q I hw)
theorem qdw (ha:PE X a ta) (hb:PE X (.BoolOp .And (b::rest) pos) tb):PE X (.BoolOp .And (a::b::rest) pos) (qfc ta tb):=by
 intro pins s σ H Q I h
 refine BoolOp_and (thn (ha pins s σ H _ I h) fun v s1 ⟨x,H1,I1,r1,q1⟩=>?_)
 obtain ⟨c,rfl,q1⟩:=q1
 cases r1
 refine wpAny_truthy_bool ?_
 cases c with
 | true=>exact hb pins s1 σ H1 Q I1 q1
 | false=>exact ⟨.bl false,H1,I1,rfl,q1⟩
def tIf (t:TT) (ta tb:TE):TE:=fun σ H Q=>t σ H fun c H1=>if c=true then ta σ H1 Q else tb σ H1 Q
end
end L2
namespace L2
open PySem PySem.Spec PyProof.Rows
def SqL (K:PySem.W.Frag) (H:Hp) (a:Addr) (xs:List V):Prop:=
 Rd H a (.lst xs) ∨
  ∃ (o:Obj) (its:Array Value) (n:Nat),K.lookup a=some o∧o.cls=.type "list"∧o.dict=none∧o.data=.seq its n∧its.size≤sizeLine∧Vals xs its.toList
def SqT (K:PySem.W.Frag) (H:Hp) (a:Addr) (xs:List V):Prop:=
 Rd H a (.tup xs) ∨
  ∃ (o:Obj) (its:Array Value) (n:Nat),K.lookup a=some o∧o.cls=.type "tuple"∧o.data=.seq its n∧its.size≤sizeLine∧Vals xs its.toList
def absV:Value→Option V
 | .none=>some .non
 | .bool b=>some (.bl b)
 | .int i _=>some (.int i)
 | .str x _=>some (.str x)
 | .bytes b _=>some (.byt b)
 | .float b _=>some (.flt b)
 | .ref a=>some (.ref a)
 | .type n=>some (.ty n)
 | _=>none
theorem RelV.abs {x:V} {u:Value} (r:RelV x u):absV u=some x:=by
 cases x with
 | non=>cases r;rfl
 | bl _=>cases r;rfl
 | int _=>obtain ⟨t,rfl⟩:=r;rfl
 | str _=>obtain ⟨t,rfl⟩:=r;rfl
 | byt _=>obtain ⟨t,rfl⟩:=r;rfl
 | flt _=>obtain ⟨t,rfl⟩:=r;rfl
 | ref _=>cases r;rfl
 | ty _=>cases r;rfl
theorem RelV.inj {x y:V} {u:Value} (r:RelV x u) (q:RelV y u):x=y:=Option.some.inj (r.abs.symm.trans q.abs)
theorem Vals.inj:∀ {xs ys:List V} {us:List Value},Vals xs us→Vals ys us→xs=ys
 | _,_,_,.nil,.nil=>rfl
 | _,_,_,.cons r t,.cons r' t'=>by rw [r.inj r',Vals.inj t t']
section
variable {X:Cx} {pins:List (Addr×Obj)} {σ:St} {H:Hp} {s:Shared} {a:Addr} {xs ys:List V}
theorem SqL.of {K:PySem.W.Frag} (h:H a=some (.lst xs)):SqL K H a xs:=.inl (.inl h)
theorem SqT.of {K:PySem.W.Frag} (h:H a=some (.tup xs)):SqT K H a xs:=.inl (.inl h)
theorem Inv.list (I:Inv X pins σ H s) (h:SqL X.K H a xs):∃ its:List Value,Vals xs its∧PlainL s.heap a its.toArray∧xs.length≤sizeLine:=by
 rcases h with h | ⟨o,its,n,hk,hc,hd,hs,hz,r⟩
 ·obtain ⟨z,its,n,r,e⟩:=h.ok I.hok
  exact ⟨its,r,⟨_,n,e,rfl,rfl,rfl⟩,z⟩
 ·refine ⟨its.toList,r,⟨o,n,I.kIn a o hk,hc,hd,by simpa using hs⟩,?_⟩
  have e:=r.length
  simp only [Array.length_toList] at e
  omega
theorem Inv.tuple (I:Inv X pins σ H s) (h:SqT X.K H a xs):∃ its:List Value,Vals xs its∧IsTup s.heap a its.toArray∧xs.length≤sizeLine:=by
 rcases h with h | ⟨o,its,n,hk,hc,hs,hz,r⟩
 ·obtain ⟨z,its,r,p⟩:=h.ok I.hok
  exact ⟨its,r,p,z⟩
 ·refine ⟨its.toList,r,⟨o,I.kIn a o hk,hc,n,by simpa using hs⟩,?_⟩
  have e:=r.length
  simp only [Array.length_toList] at e
  omega
theorem Inv.list_inj (I:Inv X pins σ H s) (h:SqL X.K H a xs) (h':SqL X.K H a ys):xs=ys:=by
 obtain ⟨its,r,⟨o,n,e,_,_,d⟩,_⟩:=I.list h
 obtain ⟨its',r',⟨o',n',e',_,_,d'⟩,_⟩:=I.list h'
 rw [e] at e';cases e'
 rw [d] at d'
 injection d' with d1 _
 have:its=its':=by simpa using congrArg Array.toList d1
 subst this
 exact r.inj r'
theorem Inv.tuple_inj (I:Inv X pins σ H s) (h:SqT X.K H a xs) (h':SqT X.K H a ys):xs=ys:=by
 obtain ⟨its,r,⟨o,e,_,n,d⟩,_⟩:=I.tuple h
 obtain ⟨its',r',⟨o',e',_,n',d'⟩,_⟩:=I.tuple h'
 rw [e] at e';cases e'
 rw [d] at d'
 injection d' with d1 _
 have:its=its':=by simpa using congrArg Array.toList d1
 subst this
 exact r.inj r'
end
abbrev Cx.wish (X:Cx) (E:Value→Shared→Prop):Cx:={ X with xe:=E }
abbrev Cx.nox (X:Cx):Cx:=X.wish fun _ _=>False
theorem Cx.Ok.wish {X:Cx} (ok:X.Ok) (E:Value→Shared→Prop):(X.wish E).Ok:=
 ⟨ok.mod,ok.kind,ok.glob,ok.blt,ok.above,ok.inj,ok.has,ok.cab,ok.hd,ok.frames,ok.stk,ok.exf,ok.bs,ok.bsz,ok.noex,ok.exfs,ok.funs,ok.frf⟩
theorem Cx.Ok.unwish {X:Cx} {E:Value→Shared→Prop} (ok:(X.wish E).Ok):X.Ok:=
 ⟨ok.mod,ok.kind,ok.glob,ok.blt,ok.above,ok.inj,ok.has,ok.cab,ok.hd,ok.frames,ok.stk,ok.exf,ok.bs,ok.bsz,ok.noex,ok.exfs,ok.funs,ok.frf⟩
section
variable {X:Cx} {pins:List (Addr×Obj)} {σ:St} {H:Hp} {s:Shared} {E:Value→Shared→Prop}
theorem Inv.wish (I:Inv X pins σ H s) (E:Value→Shared→Prop):Inv (X.wish E) pins σ H s:=⟨I.ok.wish E,I.os,I.bare,I.base,I.loc,I.cell,I.free,I.freeC,I.pin,I.hok,I.len⟩
theorem Inv.unwish (I:Inv (X.wish E) pins σ H s):Inv X pins σ H s:=⟨I.ok.unwish,I.os,I.bare,I.base,I.loc,I.cell,I.free,I.freeC,I.pin,I.hok,I.len⟩
theorem SP.unwish {D:Ends} {f:Flow} {s':Shared} (h:SP (X.wish E) pins D f s'):SP X pins D f s':=by
 cases f with
 | next=>obtain ⟨σ',H',I,q⟩:=h;exact ⟨σ',H',I.unwish,q⟩
 | brk=>obtain ⟨σ',H',I,q⟩:=h;exact ⟨σ',H',I.unwish,q⟩
 | cont=>obtain ⟨σ',H',I,q⟩:=h;exact ⟨σ',H',I.unwish,q⟩
 | ret u=>obtain ⟨v,σ',H',I,r,q⟩:=h;exact ⟨v,σ',H',I.unwish,r,q⟩
theorem PSs.nox {st:List Stmt} {t:TS} (h:PSs X.nox st t):PSs X st t:=fun pins s σ H D I hw =>
 wpAny_mono (h pins s σ H D (I.wish _) hw) (fun _ _ q=>q.unwish) fun _ _ z=>False.elim z
end
section
variable {X:Cx} {st:Stmt} {rest:List Stmt} {t u:TS} {e:Expr} {te:TE} {pos:Pos}
def qfd:TS:=fun D σ H=>D.nx σ H
def qga (t u:TS):TS:=fun D σ H=>t { D with nx:=u D } σ H
theorem qv:PSs X [] qfd:=fun _ _ σ H _ I h=>wpAny_execs_nil ⟨σ,H,I,h⟩
theorem qd (h1:PS X st t) (h2:PSs X rest u):PSs X (st::rest) (qga t u):=by
 intro pins s σ H D I h
 refine wpAny_execs_cons (thn (h1 pins s σ H { D with nx:=u D } I h) fun f s1 q=>?_)
 cases f with
 | next =>
  obtain ⟨σ',H',I',q⟩:=q
  exact h2 pins s1 σ' H' D I' q
 | ret v=>exact q
 | brk=>exact q
 | cont=>exact q
theorem qf (h1:PS X st t):PSs X [st] t:=by
 intro pins s σ H D I h
 refine wpAny_execs_cons (thn (h1 pins s σ H D I h) fun f s1 q=>?_)
 cases f with
 | next=>exact wpAny_execs_nil q
 | ret v=>exact q
 | brk=>exact q
 | cont=>exact q
theorem Inv.quiet {pins:List (Addr×Obj)} {σ:St} {H:Hp} {s:Shared} (I:Inv X pins σ H s):interactive X.env=false:=by simp [interactive,I.ok.kind]
def qfe (te:TE):TS:=fun D σ H=>te σ H fun _ H1=>D.nx σ H1
theorem qR (he:PE X e te) (hs:swapsWith e none pos.line X.env=pure false:=by rfl):PS X (.Expr e pos) (qfe te):=by
 intro pins s σ H D I h
 exact wpAny_Expr_any (thn (he pins s σ H _ I h) fun v s1 ⟨x,H1,I1,r1,q1⟩=>⟨σ,H1,I1,q1⟩) I.quiet hs
def qgb (te:TE):TS:=fun D σ H=>te σ H D.rt
theorem qq (he:PE X e te):PS X (.Return (some e) pos) (qgb te):=by
 intro pins s σ H D I h
 exact wpAny_Return_some (thn (he pins s σ H _ I h) fun v s1 ⟨x,H1,I1,r1,q1⟩=>⟨x,σ,H1,I1,r1,q1⟩)
def tRetN:TS:=fun D _ H=>D.rt .non H
def qgc (c:TT) (t u:TS):TS:=fun D σ H=>c σ H fun b H1=>if b=true then t D σ H1 else u D σ H1
theorem jf {c:Expr} {a b:List Stmt} {tc:TT} (hc:PT X c tc) (ha:PSs X a t) (hb:PSs X b u):PS X (.If c a b pos) (qgc tc t u):=by
 intro pins s σ H D I h
 refine wpAny_If (thn (hc pins s σ H _ I h) fun d s1 ⟨H1,I1,q1⟩=>?_)
 cases d with
 | true=>exact ha pins s1 σ H1 D I1 q1
 | false=>exact hb pins s1 σ H1 D I1 q1
def tNever:TS:=fun _ _ _=>False
theorem ps_never:PS X st tNever:=fun _ _ _ _ _ _ h=>h.elim
end
abbrev TG:=V→St→Hp→(St→Hp→Prop)→Prop
abbrev TGs:=List V→St→Hp→(St→Hp→Prop)→Prop
def PG (X:Cx) (target:Expr) (t:TG):Prop:=
 ∀ (pins:List (Addr×Obj)) (s:Shared) (σ:St) (H:Hp) (v:V) (u:Value) (Q:St→Hp→Prop),Inv X pins σ H s→RelV v u→t v σ H Q →
  wpAny (model X.prog X.w) X.A (assign target X.env u) (fun _ s'=>∃ σ' H',Inv X pins σ' H' s'∧Q σ' H') X.xe s
def PGs (X:Cx) (ts:List Expr) (t:TGs):Prop:=
 ∀ (pins:List (Addr×Obj)) (s:Shared) (σ:St) (H:Hp) (vs:List V) (us:List Value) (Q:St→Hp→Prop),Inv X pins σ H s→Vals vs us→t vs σ H Q →
  wpAny (model X.prog X.w) X.A (assignInOrder ((assignEach ts X.env).map (·.2)) us) (fun _ s'=>∃ σ' H',Inv X pins σ' H' s'∧Q σ' H') X.xe s
abbrev qff:=V→V→V→Hp→(Hp→Prop)→Prop
def qfY (X:Cx) (t:qff):Prop:=
 ∀ (pins:List (Addr×Obj)) (s:Shared) (σ:St) (H:Hp) (o i v:V) (ov iv u:Value) (Q:Hp→Prop),Inv X pins σ H s→RelV o ov→RelV i iv→RelV v u→t o i v H Q →
  wpAny (model X.prog X.w) X.A (setItem ov iv u) (fun _ s'=>∃ H',Inv X pins σ H' s'∧Q H') X.xe s
section
variable {X:Cx} {pos:Pos}
def qcm (i:Nat):TG:=fun v σ H Q=>Q (σ.set i (some v)) H
theorem qr {i:Nat} {x:Str} (hN:X.N.Nodup) (hi:X.N[i]?=some x) (hx:Loc X.env.scope x) (hf:X.fn x=true∨X.env.scope.names.lookup x=some .local:=by first | exact .inl rfl | exact .inr rfl | assumption):PG X (.Name x pos) (qcm i):=by
 intro pins s σ H v u Q I r h
 exact wpAny_assign_Name (qaK I hN hi hx r (fun s' I'=>⟨_,H,I',h⟩) hf)
def gNil:TGs:=fun vs σ H Q=>vs=[]∧Q σ H
def gCons (t:TG) (u:TGs):TGs:=fun vs σ H Q=>∃ v r,vs=v::r∧t v σ H fun σ' H'=>u r σ' H' Q
theorem qcn:PGs X [] gNil:=by
 intro pins s σ H vs us Q I r h
 obtain ⟨e,h⟩:=h
 subst e
 cases r
 exact assignInOrder_nil ⟨σ,H,I,h⟩
theorem zJ {e:Expr} {es:List Expr} {t:TG} {u:TGs} (h1:PG X e t) (h2:PGs X es u)
  (hs:(assignEach (e::es) X.env).map (·.2)=assign e X.env::(assignEach es X.env).map (·.2):=by rfl):PGs X (e::es) (gCons t u):=by
 intro pins s σ H vs us Q I r h
 obtain ⟨v,vr,e1,h⟩:=h
 subst e1
 cases r with
 | cons r rr =>
  rw [hs]
  refine assignInOrder_cons (thn (h1 pins s σ H _ _ _ I r h) fun _ s1 ⟨σ1,H1,I1,q1⟩=>?_)
  exact h2 pins s1 σ1 H1 _ _ Q I1 rr q1
def gTup (K:PySem.W.Frag) (n:Nat) (t:TGs):TG:=fun v σ H Q=>∃ a xs,v=.ref a∧SqT K H a xs∧xs.length=n∧t xs σ H Q
theorem qdx {es:List Expr} {k:Nat} {t:TGs} {n:Nat} (hc:X.calm=true) (h:PGs X es t)
  (hn:(assignEach es X.env).length=n:=by rfl) (hst:(assignEach es X.env).findIdx? (·.1)=none:=by rfl):PG X (.Tuple es k pos) (gTup X.K n t):=by
 intro pins s σ H v u Q I r hw
 obtain ⟨a,xs,e1,hq,hl,hw⟩:=hw
 subst e1
 cases r
 obtain ⟨its,rv,ht,hz⟩:=I.tuple hq
 refine assign_Tuple_tuple (I.ok.hd hc) ht (by simp [hn,← hl,rv.length]) hst fun h' hx=>?_
 have I1:Inv X pins σ H { s with heap:=h' }:=I.kept (t':=s.toks) fun b o e=>hx b o (Nat.ne_of_lt (Heap.lt_size e)) e
 exact h pins _ σ H xs _ Q I1 (by simpa using rv) hw
def qgd (to ti:TE) (t:qff):TG:=fun v σ H Q=>to σ H fun o H1=>ti σ H1 fun i H2=>t o i v H2 fun H3=>Q σ H3
theorem qaa {o i:Expr} {to ti:TE} {t:qff} (ho:PE X o to) (hi:PE X i ti) (hs:qfY X t)
  (ha:∀ v,assign (.Subscript o i pos) X.env v=(do
   let ov ← holding [v] (eval o X.env)
   let iv ← holding [v,ov] (eval i X.env)
   standAt pos
   holding [v,ov,iv] (setItem ov iv v)
   release [v,ov,iv] []):=by intro _;rfl):PG X (.Subscript o i pos) (qgd to ti t):=by
 intro pins s σ H v u Q I r h
 rw [ha]
 refine wpAny_bind (wpAny_holding (thn (ho pins s σ H _ I h) fun ov s1 ⟨x,H1,I1,r1,q1⟩=>?_))
 refine wpAny_bind (wpAny_holding (thn (hi pins s1 σ H1 _ I1 q1) fun iv s2 ⟨y,H2,I2,r2,q2⟩=>?_))
 refine wpAny_bind (wpAny_standAt (wpAny_bind (wpAny_holding (thn (hs pins s2 σ H2 x y v ov iv u _ I2 r1 r2 r q2) fun _ s3 ⟨H3,I3,q3⟩=>?_))))
 exact wpAny_release ⟨σ,H3,I3,q3⟩
def qfg (te:TE) (g:TG):TS:=fun D σ H=>te σ H fun x H1=>g x σ H1 D.nx
theorem qab {tg e:Expr} {te:TE} {g:TG} (he:PE X e te) (hg:PG X tg g) (hs:swapsWithSole [tg] e pos.line X.env=pure false:=by rfl) (hw:swappedStores [tg] e X.env=pure none:=by rfl)
  (h1:(assignEach [tg] X.env).map (·.2)=[assign tg X.env]:=by rfl):PS X (.Assign [tg] e pos) (qfg te g):=by
 intro pins s σ H D I h
 refine wpAny_Assign_stores (thn (he pins s σ H _ I h) fun v s1 ⟨x,H1,I1,r1,q1⟩=>?_) hs hw
 rw [h1]
 exact thn (hg pins s1 σ H1 x v _ I1 r1 q1) fun _ s2 q=>q
theorem qo {i:Nat} {x:Str} {e:Expr} {te:TE} {pos':Pos} (hN:X.N.Nodup) (hi:X.N[i]?=some x) (hx:Loc X.env.scope x) (he:PE X e te) (hs:swapsWith e (some (.Name x pos')) pos.line X.env=pure false:=by rfl) (hf:X.fn x=true∨X.env.scope.names.lookup x=some .local:=by first | exact .inl rfl | exact .inr rfl | assumption) :
  PS X (.Assign [.Name x pos'] e pos) (qfg te (qcm i)):=by
 intro pins s σ H D I h
 refine wpAny_Assign_Name (thn (he pins s σ H _ I h) fun v s1 ⟨y,H1,I1,r1,q1⟩=>?_) hs
 exact qaK I1 hN hi hx r1 (fun s2 I2=>⟨_,H1,I2,q1⟩) hf
end
section
variable {X:Cx} {pos:Pos}
def tWhile (c:TT) (tb:TS):TS:=fun D σ H=>∃ W:Nat→St→Hp→Prop,(∃ m,W m σ H)∧∀ m σ H,W m σ H →
 c σ H fun b H1=>if b=true then ∃ N:St→Hp→Prop,(∀ σ' H',N σ' H'→∃ m',m' < m∧W m' σ' H')∧tb { D with nx:=N,ct:=N,bk:=D.nx } σ H1 else D.nx σ H1
theorem qcL {c:Expr} {body:List Stmt} {tc:TT} {tb:TS} (hp:PassesOwn (model X.prog X.w) X.A X.env X.xe) (hc:PT X c tc) (hb:PSs X body tb):PS X (.While c body [] pos) (tWhile tc tb):=by
 intro pins s σ H D I h
 obtain ⟨W,⟨m0,w0⟩,turn⟩:=h
 refine wpAny_While (codeAny_whileLoop (fun n s'=>∃ σ' H',Inv X pins σ' H' s'∧W n σ' H') ?_ m0 ⟨σ,H,I,w0⟩)
 rintro n s1 ⟨σ1,H1,I1,w1⟩
 refine wpAny_passesOwn hp (thn (hc pins s1 σ1 H1 _ I1 (turn n σ1 H1 w1)) fun b s2 ⟨H2,I2,q2⟩=>?_)
 cases b with
 | true =>
  obtain ⟨N,hN,q2⟩:=q2
  rw [if_pos rfl]
  refine wpAny_passesOwn hp (thn (hb pins s2 σ1 H2 _ I2 q2) fun f s3 q3=>?_)
  cases f with
  | next =>
   obtain ⟨σ3,H3,I3,n3⟩:=q3
   obtain ⟨m',hm,w3⟩:=hN σ3 H3 n3
   exact ⟨m',hm,σ3,H3,I3,w3⟩
  | cont =>
   obtain ⟨σ3,H3,I3,n3⟩:=q3
   obtain ⟨m',hm,w3⟩:=hN σ3 H3 n3
   exact ⟨m',hm,σ3,H3,I3,w3⟩
  | brk=>exact q3
  | ret v=>exact q3
 | false =>
  rw [if_neg Bool.false_ne_true]
  exact wpAny_execs_nil ⟨σ1,H2,I2,q2⟩
end
structure It where
 go:Nat→Hp→Prop
 yld:Nat→Hp→V→Hp→Prop
 stop:Nat→Hp→Prop
def qco (X:Cx) (pins:List (Addr×Obj)) (H:Hp) (b:Addr):Prop:=
 H b=none∧b≠X.env.locals∧b∉X.fs∧(b∈X.ex∨X.s₀.heap.objs.size≤b)∧(∀ x c,X.env.cells.lookup x=some c→c≠b)∧∀ p∈X.pn++pins,p.1≠b
theorem Inv.fpOk {X:Cx} {pins:List (Addr×Obj)} {σ:St} {H H':Hp} {s:Shared} {b:Addr} (I:Inv X pins σ H s) (hb:s.heap.objs.size≤b) (hn:H' b=none):qco X pins H' b:=by
 refine ⟨hn,Nat.ne_of_gt (Nat.lt_of_lt_of_le I.lt hb),I.nofs hb,.inr (Nat.le_trans I.sz hb),fun x c e z=>?_,fun p hp z=>?_⟩
 ·obtain ⟨v,q⟩:=I.cell x c e
  exact absurd (Nat.lt_of_lt_of_le q.lt (by rw [z];exact hb)) (Nat.lt_irrefl _)
 ·exact absurd (Nat.lt_of_lt_of_le (Heap.lt_size (I.pin p hp).1) (by rw [z];exact hb)) (Nat.lt_irrefl _)
structure Turn (P:Program) (w:World) (K:PySem.W.Frag) (tg:Expr) (J:It) (fp:List Addr) (it:Addr) (tn:Nat→Heap→Prop):Prop where
 mem:it∈fp
 obj:∀ i h,tn i h→∀ b∈fp,∃ o,h.get? b=some o∧∀ v,o.data≠.cell v
 keep:∀ i h h',tn i h→(∀ b∈fp,∀ o,h.get? b=some o→h'.get? b=some o)→tn i h'
 item:∀ (X:Cx),X.prog=P→X.w=w→X.K=K→X.calm=true→∀ (i:Nat) (pins:List (Addr×Obj)) (s:Shared) (σ:St) (H:Hp) (E:Value→Shared→Prop),Inv X pins σ H s→(∀ b∈fp,qco X pins H b)→tn i s.heap→J.go i H →
  wpAny (model P w) X.A (pyNext (.ref it)) (fun r s1=>∃ u,r=some u ∧
   wpAny (model P w) X.A (letOwnedTupleGo tg (.ref it) u) (fun _ s2=>∃ x H',Inv X pins σ H' s2∧RelV x u∧J.yld i H x H'∧tn (i + 1) s2.heap∧∀ b∈fp,H' b=none) E s1) E s
 done:∀ (X:Cx),X.prog=P→X.w=w→X.K=K→X.calm=true→∀ (i:Nat) (pins:List (Addr×Obj)) (s:Shared) (σ:St) (H:Hp) (E:Value→Shared→Prop),Inv X pins σ H s→(∀ b∈fp,qco X pins H b)→tn i s.heap→J.stop i H →
  wpAny (model P w) X.A (pyNext (.ref it)) (fun r s1=>r=none∧Inv X pins σ H s1) E s
 self:∀ (A:Around) (i:Nat) (s:Shared) (Q:Value→Shared→Prop) (E:Value→Shared→Prop),tn i s.heap→Q (.ref it) s→wpAny (model P w) A (pyIter (.ref it)) Q E s
abbrev TI:=St→Hp→(It→Hp→Prop)→Prop
def PIE (X:Cx) (pins:List (Addr×Obj)) (σ:St) (tg:Expr) (R:It→Hp→Prop) (itv:Value) (s2:Shared):Prop:=
 ∃ (it:Addr) (fp:List Addr) (tn:Nat→Heap→Prop) (J:It) (H':Hp),itv=.ref it∧Inv X pins σ H' s2∧Turn X.prog X.w X.K tg J fp it tn∧tn 0 s2.heap∧(∀ b∈fp,qco X pins H' b)∧R J H'
def PI (X:Cx) (tg iter:Expr) (wi:TI):Prop:=
 ∀ (pins:List (Addr×Obj)) (s:Shared) (σ:St) (H:Hp) (R:It→Hp→Prop),Inv X pins σ H s→wi σ H R →
  wpAny (model X.prog X.w) X.A (eval iter X.env) (fun v s1=>wpAny (model X.prog X.w) X.A (pyIter v) (PIE X pins σ tg R) X.xe s1) X.xe s
theorem qeR {M:Model} {A:Around} {E:Value→Shared→Prop} {s:Shared} {tg:Expr} {it:Addr} {u:Value} {o:Obj} {n:String} {vs:Array Value} {Q:Unit→Shared→Prop} (ho:s.heap.get? it=some o) (hc:o.cls=.type n) (hd:o.data=.fields vs)
    (hn:["enumerate", "zip", "dict_itemiterator", "dict_reverseitemiterator", "odict_iterator", "itertools.zip_longest", "itertools.pairwise"].contains n=false) (hQ:Q () s):wpAny M A (letOwnedTupleGo tg (.ref it) u) Q E s:=by
  unfold letOwnedTupleGo
  cases tg<;>first
    | exact wpAny_pure hQ
    | (cases u<;>first
        | exact wpAny_pure hQ
        | (refine wpAny_bind (wpAny_load ho ?_)
           rw [hc,hd]
           show wpAny M A (if (["enumerate", "zip", "dict_itemiterator", "dict_reverseitemiterator", "odict_iterator", "itertools.zip_longest", "itertools.pairwise"].contains n&&vs[0]?==some (rawInt _))=true then _ else _) Q E s
           rw [if_neg (by intro h;rw [hn,Bool.false_and] at h;cases h)]
           exact wpAny_pure hQ))
def Itl (K:PySem.W.Frag) (a:Addr):It:=
 ⟨fun i H=>∃ xs x,SqL K H a xs∧xs[i]?=some x,fun i H x H'=>H'=H∧∀ xs,SqL K H a xs→xs[i]?=some x,fun i H=>∃ xs,SqL K H a xs∧xs.length≤i⟩
def Itt (K:PySem.W.Frag) (a:Addr):It:=
 ⟨fun i H=>∃ xs x,SqT K H a xs∧xs[i]?=some x,fun i H x H'=>H'=H∧∀ xs,SqT K H a xs→xs[i]?=some x,fun i H=>∃ xs,SqT K H a xs∧xs.length≤i⟩
def Itr (lo:Int) (n:Nat):It:=⟨fun i _=>i < n,fun i H x H'=>H'=H∧x=.int (lo + i),fun i _=>n≤i⟩
theorem qbF {P:Program} {w:World} {K:PySem.W.Frag} {tg:Expr} (a it:Addr):Turn P w K tg (Itl K a) [it] it (fun i h=>h.IsListIter it a i) where
 mem:=by simp
 obj:=fun i h st b hb=>by
  have e:b=it:=by simpa using hb
  subst e
  obtain ⟨o,e,c,d⟩:=st
  exact ⟨o,e,fun v z=>by rw [d] at z;cases z⟩
 keep:=fun i h h' st k=>st.at fun o e=>k it (by simp) o e
 item:=by
  intro X hP hw hK hc i pins s σ H E I hf st hg
  subst hP hw hK
  obtain ⟨xs,x,hq,hx⟩:=hg
  obtain ⟨its,rv,p,hz⟩:=I.list hq
  obtain ⟨u,hu,ru⟩:=rv.get hx
  obtain ⟨f0,f1,f2,f3,f4,f5⟩:=hf it (by simp)
  refine wpAny_pyNext_list_item st p.isList (x:=u) (by simpa using hu) fun h' st' sb=>?_
  have I1:Inv X pins σ H { s with heap:=h' }:=I.turned (t':=s.toks) (fun b o hb e=>(sb.2 b hb).trans e) f0 f1 f3 f4 f5
  obtain ⟨o,e,c,d⟩:=id st'
  exact ⟨u,rfl,qeR (s:={ s with heap:=h' }) e c d (by decide) ⟨x,H,I1,ru,⟨rfl,fun ys hy=>by rw [I.list_inj hy hq];exact hx⟩,st',fun b hb=>(hf b hb).1⟩⟩
 done:=by
  intro X hP hw hK hc i pins s σ H E I hf st hg
  subst hP hw hK
  obtain ⟨xs,hq,hx⟩:=hg
  obtain ⟨its,rv,p,hz⟩:=I.list hq
  obtain ⟨f0,f1,f2,f3,f4,f5⟩:=hf it (by simp)
  have hl:=rv.length
  exact wpAny_pyNext_list_end (I.ok.hd hc) st p.isList (by simp;omega) fun h' eb=>⟨rfl,I.turned (t':=s.toks) (fun b o hb e=>eb b o hb e) f0 f1 f3 f4 f5⟩
 self:=fun _ _ _ _ _ st h=>wpAny_pyIter_listiter st h
theorem turn_tuple {P:Program} {w:World} {K:PySem.W.Frag} {tg:Expr} (a it:Addr):Turn P w K tg (Itt K a) [it] it (fun i h=>h.IsTupleIter it a i) where
 mem:=by simp
 obj:=fun i h st b hb=>by
  have e:b=it:=by simpa using hb
  subst e
  obtain ⟨o,e,c,d⟩:=st
  exact ⟨o,e,fun v z=>by rw [d] at z;cases z⟩
 keep:=fun i h h' st k=>st.at fun o e=>k it (by simp) o e
 item:=by
  intro X hP hw hK hc i pins s σ H E I hf st hg
  subst hP hw hK
  obtain ⟨xs,x,hq,hx⟩:=hg
  obtain ⟨its,rv,p,hz⟩:=I.tuple hq
  obtain ⟨u,hu,ru⟩:=rv.get hx
  obtain ⟨f0,f1,f2,f3,f4,f5⟩:=hf it (by simp)
  refine wpAny_pyNext_tuple_item st (show s.heap.IsTuple a its.toArray from p) (x:=u) (by simpa using hu) fun h' st' sb=>?_
  have I1:Inv X pins σ H { s with heap:=h' }:=I.turned (t':=s.toks) (fun b o hb e=>(sb.2 b hb).trans e) f0 f1 f3 f4 f5
  obtain ⟨o,e,c,d⟩:=id st'
  exact ⟨u,rfl,qeR (s:={ s with heap:=h' }) e c d (by decide) ⟨x,H,I1,ru,⟨rfl,fun ys hy=>by rw [I.tuple_inj hy hq];exact hx⟩,st',fun b hb=>(hf b hb).1⟩⟩
 done:=by
  intro X hP hw hK hc i pins s σ H E I hf st hg
  subst hP hw hK
  obtain ⟨xs,hq,hx⟩:=hg
  obtain ⟨its,rv,p,hz⟩:=I.tuple hq
  obtain ⟨f0,f1,f2,f3,f4,f5⟩:=hf it (by simp)
  have hl:=rv.length
  exact wpAny_pyNext_tuple_end (I.ok.hd hc) st (show s.heap.IsTuple a its.toArray from p) (by simp;omega) fun h' eb=>⟨rfl,I.turned (t':=s.toks) (fun b o hb e=>eb b o hb e) f0 f1 f3 f4 f5⟩
 self:=fun _ _ _ _ _ st h=>wpAny_pyIter_tupleiter st h
theorem turn_range {P:Program} {w:World} {K:PySem.W.Frag} {tg:Expr} (it:Addr) (lo:Int) (n:Nat):Turn P w K tg (Itr lo n) [it] it (fun i h=>IsRangeIter h it (lo + (i:Nat) * 1) ((n:Int) - (i:Nat)) 1) where
 mem:=by simp
 obj:=fun i h st b hb=>by
  have e:b=it:=by simpa using hb
  subst e
  exact ⟨_,st,fun v z=>by
   have z':Data.fields _=Data.cell v:=z
   cases z'⟩
 keep:=fun i h h' st k=>k it (by simp) _ st
 item:=by
  intro X hP hw hK hc i pins s σ H E I hf st hg
  subst hP hw hK
  obtain ⟨f0,f1,f2,f3,f4,f5⟩:=hf it (by simp)
  have W:=Walks.range (prog:=X.prog) (w:=X.w) (I.ok.hd hc) it lo 1 n
  refine W.item i s _ _ hg st fun v h' tk hv st' kk=>?_
  obtain ⟨t,rfl⟩:=hv
  have I1:Inv X pins σ H { s with heap:=h',toks:=tk }:=I.turned (fun b o hb e=>kk b o (by simpa using hb) e) f0 f1 f3 f4 f5
  refine ⟨_,rfl,qeR (s:={ s with heap:=h',toks:=tk }) (n:="range_iterator") st' rfl rfl (by decide) ⟨.int (lo + i),H,I1,⟨t,?_⟩,⟨rfl,rfl⟩,st',fun b hb=>(hf b hb).1⟩⟩
  rw [Int.mul_one]
 done:=by
  intro X hP hw hK hc i pins s σ H E I hf st hg
  subst hP hw hK
  obtain ⟨f0,f1,f2,f3,f4,f5⟩:=hf it (by simp)
  exact wpAny_pyNext_range_end (I.ok.hd hc) st (by have:n≤i:=hg;omega) fun h' eb=>⟨rfl,I.turned (t':=s.toks) (fun b o hb e=>eb b o hb e) f0 f1 f3 f4 f5⟩
 self:=fun _ _ _ _ _ st h=>wpAny_pyIter_rangeiter st h
end L2
namespace L2
open PySem PySem.Spec PyProof.Rows
section
variable {X:Cx} {tg:Expr}
theorem qcM {pins:List (Addr×Obj)} {σ:St} {H:Hp} {s:Shared} {R:It→Hp→Prop} {E:Value→Shared→Prop} {lo hi:Int} {t u v:Tok} {tk:Nat} (I:Inv X pins σ H s) (h1:-(2 ^ 62)≤lo) (h2:lo < 2 ^ 62) (h3:-(2 ^ 62)≤hi) (h4:hi < 2 ^ 62)
  (q:R (Itr lo (hi - lo).toNat) H):wpAny (model X.prog X.w) X.A (pyIter (.ref s.heap.objs.size)) (PIE X pins σ tg R) E { s with heap:=s.heap.push { cls:=.type "range",data:=.fields #[.int lo t,.int hi u,.int 1 v] },toks:=tk }:=by
 refine wpAny_pyIter_range (IsRange.new ..) (small_one h1 h2 h3 h4) ?_
 have I1:Inv X pins σ H { s with heap:=s.heap.push { cls:=.type "range",data:=.fields #[.int lo t,.int hi u,.int 1 v] },toks:=tk }:=I.kept fun b o e=>Heap.get?_push_of_some _ e
 refine ⟨(s.heap.push { cls:=.type "range",data:=.fields #[.int lo t,.int hi u,.int 1 v] }).objs.size,[(s.heap.push { cls:=.type "range",data:=.fields #[.int lo t,.int hi u,.int 1 v] }).objs.size],_,_,H,rfl,
  I1.kept (t':=tk) fun b o e=>Heap.get?_push_of_some _ e,turn_range _ lo (hi - lo).toNat,?_,fun b hb=>?_,q⟩
 ·have e1:lo + ((0:Nat):Int) * 1=lo:=by simp
  have e2:(((hi - lo).toNat:Nat):Int) - ((0:Nat):Int)=Builtin.Range.rangeSize lo hi 1:=by rw [rangeSize_one];split<;>omega
  show IsRangeIter _ _ (lo + ((0:Nat):Int) * 1) ((((hi - lo).toNat:Nat):Int) - ((0:Nat):Int)) 1
  rw [e1,e2]
  exact Heap.get?_push_size _ rfl
 ·have e:b=(s.heap.push { cls:=.type "range",data:=.fields #[.int lo t,.int hi u,.int 1 v] }).objs.size:=by simpa using hb
  subst e
  exact I1.fpOk (Nat.le_refl _) (I1.hok.fresh (Nat.le_refl _))
def qfh (ta:TA):TI:=fun σ H R=>ta σ H fun vs H1=>∃ j:Int,vs=[.int j]∧-(2 ^ 62)≤j∧j < 2 ^ 62∧R (Itr 0 j.toNat) H1
def qfi (ta:TA):TI:=fun σ H R=>ta σ H fun vs H1=>∃ i j:Int,vs=[.int i,.int j]∧(-(2 ^ 62)≤i∧i < 2 ^ 62∧-(2 ^ 62)≤j∧j < 2 ^ 62)∧R (Itr i (j - i).toNat) H1
theorem qT {a:Expr} {ta:TA} {p pos:Pos} (hg:Gl X "range") (hm:X.mg "range"=none) (ha:PA X [a] ta) (hs:starEach [a] X.env=[(false,eval a X.env)]:=by rfl):PI X tg (.Call (.Name "range" p) [a] [] pos) (qfh ta):=by
 intro pins s σ H R I h
 refine Call_ (qaT I hg hm boot_range (PyProof.Rows.callWith_type1 (thn (ha pos pins s σ H _ I h) fun us s1 ⟨vs,H1,I1,r1,q1⟩=>?_) hs rfl))
 obtain ⟨j,e,q1,q2,q⟩:=q1
 subst e
 cases r1 with
 | cons r rr =>
  cases rr
  obtain ⟨t,rfl⟩:=r
  exact call_range_1 (qcM I1 (by omega) (by omega) q1 q2 (by simpa using q))
theorem pi_range2 {a b:Expr} {ta:TA} {p pos:Pos} (hg:Gl X "range") (hm:X.mg "range"=none) (ha:PA X [a,b] ta) (hs:starEach [a,b] X.env=[(false,eval a X.env),(false,eval b X.env)]:=by rfl) (hs2:starEach [b] X.env=[(false,eval b X.env)]:=by rfl) :
  PI X tg (.Call (.Name "range" p) [a,b] [] pos) (qfi ta):=by
 intro pins s σ H R I h
 refine Call_ (qaT I hg hm boot_range (PyProof.Rows.callWith_type1 (thn (ha pos pins s σ H _ I h) fun us s1 ⟨vs,H1,I1,r1,q1⟩=>?_) (by rw [hs,hs2]) (by rw [hs2];rfl)))
 obtain ⟨i,j,e,⟨q1,q2,q3,q4⟩,q⟩:=q1
 subst e
 cases r1 with
 | cons r rr =>
  cases rr with
  | cons r' rr =>
   cases rr
   obtain ⟨t,rfl⟩:=r
   obtain ⟨t',rfl⟩:=r'
   exact call_range_2 (qcM I1 q1 q2 q3 q4 q)
def qge (wi:TI) (g:TG) (tb:TS):TS:=fun D σ H=>wi σ H fun J H1=>∃ W:Nat→Nat→St→Hp→Prop,(∃ m,W 0 m σ H1)∧∀ i m σ H,W i m σ H →
 (J.stop i H∧D.nx σ H)∨(J.go i H∧∃ N:St→Hp→Prop,(∀ σ' H',N σ' H'→∃ m',m' < m∧W (i + 1) m' σ' H')∧∀ x H',J.yld i H x H'→g x σ H' fun σ2 H2=>tb { D with nx:=N,ct:=N,bk:=D.nx } σ2 H2)
def qbG (fp:List Addr) (h:Heap):List (Addr×Obj):=fp.filterMap fun b=>(h.get? b).map fun o=>(b,o)
theorem zK {fp:List Addr} {h:Heap} {b:Addr} {o:Obj} (hb:b∈fp) (e:h.get? b=some o):(b,o)∈qbG fp h:=List.mem_filterMap.mpr ⟨b,hb,by rw [e];rfl⟩
theorem of_pinsAt {fp:List Addr} {h:Heap} {p:Addr×Obj} (hp:p∈qbG fp h):p.1∈fp∧h.get? p.1=some p.2:=by
 obtain ⟨b,hb,e⟩:=List.mem_filterMap.mp hp
 cases q:h.get? b with
 | none=>rw [q] at e;cases e
 | some o =>
  rw [q] at e
  have e':(b,o)=p:=Option.some.inj e
  subst e'
  exact ⟨hb,q⟩
theorem Inv.pinned {pins:List (Addr×Obj)} {σ:St} {H:Hp} {s:Shared} {fp:List Addr} (I:Inv X pins σ H s) (hf:∀ b∈fp,qco X pins H b) (ho:∀ b∈fp,∃ o,s.heap.get? b=some o∧∀ v,o.data≠.cell v):Inv X (pins++qbG fp s.heap) σ H s:=
 I.pins_of fun p hp=>(List.mem_append.mp hp).elim (fun z=>I.pin p (List.mem_append_right _ z)) fun z=>by
  obtain ⟨hb,e⟩:=of_pinsAt z
  obtain ⟨f0,f1,f2,_⟩:=hf p.1 hb
  obtain ⟨o,e',d⟩:=ho p.1 hb
  rw [e] at e';cases e'
  exact ⟨e,f0,f1,f2,d⟩
theorem Inv.unpinned {pins pl:List (Addr×Obj)} {σ:St} {H:Hp} {s:Shared} (I:Inv X (pins++pl) σ H s):Inv X pins σ H s:=I.pins_of fun p hp=>I.pin p (List.mem_append_right _ (List.mem_append_left _ hp))
theorem jt {iter:Expr} {body:List Stmt} {wi:TI} {g:TG} {tb:TS} {pos:Pos} (hp:PassesOwn (model X.prog X.w) X.A X.env X.xe) (hc:X.calm=true) (hi:PI X tg iter wi) (hg:PG X tg g) (hb:PSs X body tb)
  (hs:∀ x,foldedSetIterable iter X.env x=pure x:=by intro _;rfl):PS X (.For tg iter body [] pos) (qge wi g tb):=by
 intro pins s σ H D I h
 refine wpAny_For (thn (hi pins s σ H _ I h) fun v s1 h1=>thn h1 fun itv s2 h2=>?_) hs
 obtain ⟨it,fp,tn,J,H2,e,I2,T,st2,f2,W,⟨m0,w0⟩,turn⟩:=h2
 subst e
 have stat:∀ {H':Hp},(∀ b∈fp,H' b=none)→∀ b∈fp,qco X pins H' b:=fun hn b hb=>⟨hn b hb,(f2 b hb).2⟩
 refine codeAny_forLoop_any (fun n s'=>∃ i σ' H',Inv X pins σ' H' s'∧tn i s'.heap∧(∀ b∈fp,H' b=none)∧W i n σ' H') ?_ m0 ⟨0,σ,H2,I2,st2,fun b hb=>(f2 b hb).1,w0⟩
 rintro n s3 ⟨i,σ3,H3,I3,st3,fr3,w3⟩
 rcases turn i n σ3 H3 w3 with ⟨stop,qn⟩ | ⟨go,N,hN,step⟩
 ·refine wpAny_passesOwn hp (thn (T.done X rfl rfl rfl hc i pins s3 σ3 H3 X.xe I3 (stat fr3) st3 stop) fun r s4 ⟨hr,I4⟩=>?_)
  subst hr
  exact wpAny_execs_nil ⟨σ3,H3,I4,qn⟩
 ·refine wpAny_passesOwn hp (thn (T.item X rfl rfl rfl hc i pins s3 σ3 H3 X.xe I3 (stat fr3) st3 go) fun r s4 ⟨u,hr,h4⟩=>?_)
  subst hr
  refine wpAny_passesOwn hp (thn h4 fun _ s5 ⟨x,H5,I5,r5,y5,st5,fr5⟩=>?_)
  have I5':=I5.pinned (stat fr5) (T.obj _ _ st5)
  refine wpAny_passesOwn hp (thn (hg _ s5 σ3 H5 x u _ I5' r5 (step x H5 y5)) fun _ s6 ⟨σ6,H6,I6,q6⟩=>?_)
  refine wpAny_passesOwn hp (thn (hb _ s6 σ6 H6 _ I6 q6) fun f s7 q7=>?_)
  have again:∀ {σ7:St} {H7:Hp},Inv X (pins++qbG fp s5.heap) σ7 H7 s7→N σ7 H7→∃ m,m < n∧∃ i σ' H',Inv X pins σ' H' s7∧tn i s7.heap∧(∀ b∈fp,H' b=none)∧W i m σ' H':=fun {σ7 H7} I7 n7=>by
   obtain ⟨m',hm,w7⟩:=hN σ7 H7 n7
   refine ⟨m',hm,i + 1,σ7,H7,I7.unpinned,T.keep _ _ _ st5 fun b hb o e=>(I7.pin (b,o) (List.mem_append_right _ (List.mem_append_right _ (zK hb e)))).1,fun b hb=>?_,w7⟩
   obtain ⟨o,e,d⟩:=T.obj _ _ st5 b hb
   exact (I7.pin (b,o) (List.mem_append_right _ (List.mem_append_right _ (zK hb e)))).2.1
  cases f with
  | next=>obtain ⟨σ7,H7,I7,n7⟩:=q7;exact again I7 n7
  | cont=>obtain ⟨σ7,H7,I7,n7⟩:=q7;exact again I7 n7
  | brk=>obtain ⟨σ7,H7,I7,q7⟩:=q7;exact ⟨σ7,H7,I7.unpinned,q7⟩
  | ret v=>obtain ⟨x7,σ7,H7,I7,r7,q7⟩:=q7;exact ⟨x7,σ7,H7,I7.unpinned,r7,q7⟩
end
theorem jS {K:PySem.W.Frag} {a:Addr} {xs:List V} {g:TG} {tb:TS} {D:Ends} {σ:St} {H:Hp} (Pv:Nat→St→Hp→Prop) (h0:Pv 0 σ H) (hl:∀ i σ H,i≤xs.length→Pv i σ H→SqL K H a xs)
  (hs:∀ i x σ H,xs[i]?=some x→Pv i σ H→g x σ H fun σ2 H2=>tb { D with nx:=Pv (i + 1),ct:=Pv (i + 1),bk:=D.nx } σ2 H2) (hd:∀ σ H,Pv xs.length σ H→D.nx σ H) :
  ∃ W:Nat→Nat→St→Hp→Prop,(∃ m,W 0 m σ H)∧∀ i m σ H,W i m σ H →
   ((Itl K a).stop i H∧D.nx σ H)∨((Itl K a).go i H∧∃ N:St→Hp→Prop,(∀ σ' H',N σ' H'→∃ m',m' < m∧W (i + 1) m' σ' H')∧∀ x H',(Itl K a).yld i H x H'→g x σ H' fun σ2 H2=>tb { D with nx:=N,ct:=N,bk:=D.nx } σ2 H2):=by
 refine ⟨fun i m σ H=>m=xs.length - i∧i≤xs.length∧Pv i σ H,⟨xs.length,by simp,Nat.zero_le _,h0⟩,?_⟩
 rintro i m σ H ⟨rfl,hi,p⟩
 have q:=hl i σ H hi p
 by_cases hlt:i < xs.length
 ·refine .inr ⟨⟨xs,xs[i],q,by simp [hlt]⟩,Pv (i + 1),fun σ' H' p'=>⟨xs.length - (i + 1),by omega,rfl,hlt,p'⟩,fun x H' y=>?_⟩
  obtain ⟨e,y⟩:=y
  subst e
  exact hs i x σ _ (y xs q) p
 ·have e:i=xs.length:=by omega
  subst e
  exact .inl ⟨⟨xs,q,Nat.le_refl _⟩,hd σ H p⟩
theorem for_tup {K:PySem.W.Frag} {a:Addr} {xs:List V} {g:TG} {tb:TS} {D:Ends} {σ:St} {H:Hp} (Pv:Nat→St→Hp→Prop) (h0:Pv 0 σ H) (hl:∀ i σ H,i≤xs.length→Pv i σ H→SqT K H a xs)
  (hs:∀ i x σ H,xs[i]?=some x→Pv i σ H→g x σ H fun σ2 H2=>tb { D with nx:=Pv (i + 1),ct:=Pv (i + 1),bk:=D.nx } σ2 H2) (hd:∀ σ H,Pv xs.length σ H→D.nx σ H) :
  ∃ W:Nat→Nat→St→Hp→Prop,(∃ m,W 0 m σ H)∧∀ i m σ H,W i m σ H →
   ((Itt K a).stop i H∧D.nx σ H)∨((Itt K a).go i H∧∃ N:St→Hp→Prop,(∀ σ' H',N σ' H'→∃ m',m' < m∧W (i + 1) m' σ' H')∧∀ x H',(Itt K a).yld i H x H'→g x σ H' fun σ2 H2=>tb { D with nx:=N,ct:=N,bk:=D.nx } σ2 H2):=by
 refine ⟨fun i m σ H=>m=xs.length - i∧i≤xs.length∧Pv i σ H,⟨xs.length,by simp,Nat.zero_le _,h0⟩,?_⟩
 rintro i m σ H ⟨rfl,hi,p⟩
 have q:=hl i σ H hi p
 by_cases hlt:i < xs.length
 ·refine .inr ⟨⟨xs,xs[i],q,by simp [hlt]⟩,Pv (i + 1),fun σ' H' p'=>⟨xs.length - (i + 1),by omega,rfl,hlt,p'⟩,fun x H' y=>?_⟩
  obtain ⟨e,y⟩:=y
  subst e
  exact hs i x σ _ (y xs q) p
 ·have e:i=xs.length:=by omega
  subst e
  exact .inl ⟨⟨xs,q,Nat.le_refl _⟩,hd σ H p⟩
theorem jL {lo:Int} {n:Nat} {g:TG} {tb:TS} {D:Ends} {σ:St} {H:Hp} (Pv:Nat→St→Hp→Prop) (h0:Pv 0 σ H)
  (hs:∀ i σ H,i < n→Pv i σ H→g (.int (lo + i)) σ H fun σ2 H2=>tb { D with nx:=Pv (i + 1),ct:=Pv (i + 1),bk:=D.nx } σ2 H2) (hd:∀ σ H,Pv n σ H→D.nx σ H) :
  ∃ W:Nat→Nat→St→Hp→Prop,(∃ m,W 0 m σ H)∧∀ i m σ H,W i m σ H →
   ((Itr lo n).stop i H∧D.nx σ H)∨((Itr lo n).go i H∧∃ N:St→Hp→Prop,(∀ σ' H',N σ' H'→∃ m',m' < m∧W (i + 1) m' σ' H')∧∀ x H',(Itr lo n).yld i H x H'→g x σ H' fun σ2 H2=>tb { D with nx:=N,ct:=N,bk:=D.nx } σ2 H2):=by
 refine ⟨fun i m σ H=>m=n - i∧i≤n∧Pv i σ H,⟨n,by simp,Nat.zero_le _,h0⟩,?_⟩
 rintro i m σ H ⟨rfl,hi,p⟩
 by_cases hlt:i < n
 ·refine .inr ⟨hlt,Pv (i + 1),fun σ' H' p'=>⟨n - (i + 1),by omega,rfl,hlt,p'⟩,fun x H' y=>?_⟩
  obtain ⟨e,y⟩:=y
  subst e y
  exact hs i σ _ hlt p
 ·have e:i=n:=by omega
  subst e
  exact .inl ⟨Nat.le_refl _,hd σ H p⟩
end L2
namespace L2
open PySem PySem.Spec PyProof.Rows
abbrev R2:=V→V→Hp→VK→Prop
def OpR (X:Cx) (f:Value→Value→Sem Value) (r:R2):Prop:=
 ∀ (pins:List (Addr×Obj)) (s:Shared) (σ:St) (H:Hp) (x y:V) (v u:Value) (Q:VK),Inv X pins σ H s→RelV x v→RelV y u→r x y H Q →
  wpAny (model X.prog X.w) X.A (f v u) (EP X pins σ Q) X.xe s
def UnR (X:Cx) (f:Value→Sem Value) (r:V→Hp→VK→Prop):Prop:=
 ∀ (pins:List (Addr×Obj)) (s:Shared) (σ:St) (H:Hp) (x:V) (v:Value) (Q:VK),Inv X pins σ H s→RelV x v→r x H Q →
  wpAny (model X.prog X.w) X.A (f v) (EP X pins σ Q) X.xe s
def zm (X:Cx) (f:Value) (r:List V→Hp→VK→Prop):Prop:=
 ∀ (pins:List (Addr×Obj)) (s:Shared) (σ:St) (H:Hp) (xs:List V) (us:List Value) (Q:VK),Inv X pins σ H s→Vals xs us→r xs H Q →
  wpAny (model X.prog X.w) X.A (call f us) (EP X pins σ Q) X.xe s
def tOp (r:R2) (ta tb:TE):TE:=fun σ H Q=>ta σ H fun x H1=>tb σ H1 fun y H2=>r x y H2 Q
def tUn (r:V→Hp→VK→Prop) (ta:TE):TE:=fun σ H Q=>ta σ H fun x H1=>r x H1 Q
def rI (C:Int→Int→Prop) (g:Int→Int→V):R2:=fun x y H Q=>∃ i j,x=.int i∧y=.int j∧C i j∧Q (g i j) H
def rI0 (g:Int→Int→V):R2:=fun x y H Q=>∃ i j,x=.int i∧y=.int j∧Q (g i j) H
def rU (g:Int→V):V→Hp→VK→Prop:=fun x H Q=>∃ i,x=.int i∧Q (g i) H
section
variable {X:Cx} {a b c:Expr} {ta tb tc:TE} {pos:Pos}
theorem qfZ (ha:PE X a ta) (hb:PE X b tb) {pins:List (Addr×Obj)} {s:Shared} {σ:St} {H:Hp} {R:V→V→Hp→Prop} (I:Inv X pins σ H s)
  (h:ta σ H fun x H1=>tb σ H1 fun y H2=>R x y H2) {Q:Value→Shared→Prop} {f:Value→Value→Sem Value}
  (hf:∀ v u s2 x y H2,Inv X pins σ H2 s2→RelV x v→RelV y u→R x y H2→wpAny (model X.prog X.w) X.A (f v u) Q X.xe s2) :
  wpAny (model X.prog X.w) X.A (eval a X.env) (fun v s₁=>wpAny (model X.prog X.w) X.A (eval b X.env) (fun u s₂=>wpAny (model X.prog X.w) X.A (f v u) Q X.xe s₂) X.xe s₁) X.xe s:=by
 refine thn (ha pins s σ H _ I h) fun v s1 ⟨x,H1,I1,r1,q1⟩=>?_
 refine thn (hb pins s1 σ H1 _ I1 q1) fun u s2 ⟨y,H2,I2,r2,q2⟩=>?_
 exact hf v u s2 x y H2 I2 r1 r2 q2
theorem qp {op:Operator} {r:R2} (ho:OpR X (binaryOp op) r) (ha:PE X a ta) (hb:PE X b tb):PE X (.BinOp a op b pos) (tOp r ta tb):=by
 intro pins s σ H Q I h
 exact wpAny_BinOp (qfZ ha hb I h fun v u s2 x y H2 I2 rx ry q=>ho pins s2 σ H2 x y v u Q I2 rx ry q)
theorem qeS {op:UnaryOp} {r:V→Hp→VK→Prop} (ho:UnR X (unaryOp op) r) (ha:PE X a ta):PE X (.UnaryOp op a pos) (tUn r ta):=by
 intro pins s σ H Q I h
 exact UnaryOp_ (thn (ha pins s σ H _ I h) fun v s1 ⟨x,H1,I1,r1,q1⟩=>ho pins s1 σ H1 x v Q I1 r1 q1)
theorem opI {f:Value→Value→Sem Value} {C:Int→Int→Prop} {g:Int→Int→Int}
  (rule:∀ (i j:Int) (t u:Tok) (s:Shared) (Q:Value→Shared→Prop) (E:Value→Shared→Prop),C i j→Q (.int (g i j) s.toks) { s with toks:=s.toks + 1 }→wpAny (model X.prog X.w) X.A (f (.int i t) (.int j u)) Q E s) :
  OpR X f (rI C fun i j=>.int (g i j)):=by
 intro pins s σ H x y v u Q I rx ry h
 obtain ⟨i,j,rfl,rfl,hc,q⟩:=h
 obtain ⟨t,rfl⟩:=rx
 obtain ⟨t',rfl⟩:=ry
 exact rule i j t t' s _ _ hc ⟨.int (g i j),H,I.tok _,⟨_,rfl⟩,q⟩
theorem qfN {f:Value→Value→Sem Value} {g:Int→Int→Int}
  (rule:∀ (i j:Int) (t u:Tok) (s:Shared) (Q:Value→Shared→Prop) (E:Value→Shared→Prop),Q (.int (g i j) s.toks) { s with toks:=s.toks + 1 }→wpAny (model X.prog X.w) X.A (f (.int i t) (.int j u)) Q E s) :
  OpR X f (rI0 fun i j=>.int (g i j)):=by
 intro pins s σ H x y v u Q I rx ry h
 obtain ⟨i,j,rfl,rfl,q⟩:=h
 obtain ⟨t,rfl⟩:=rx
 obtain ⟨t',rfl⟩:=ry
 exact rule i j t t' s _ _ ⟨.int (g i j),H,I.tok _,⟨_,rfl⟩,q⟩
theorem qf0 {f:Value→Value→Sem Value} {g:Int→Int→Bool}
  (rule:∀ (i j:Int) (t u:Tok) (s:Shared) (Q:Value→Shared→Prop) (E:Value→Shared→Prop),Q (.bool (g i j)) s→wpAny (model X.prog X.w) X.A (f (.int i t) (.int j u)) Q E s) :
  OpR X f (rI0 fun i j=>.bl (g i j)):=by
 intro pins s σ H x y v u Q I rx ry h
 obtain ⟨i,j,rfl,rfl,q⟩:=h
 obtain ⟨t,rfl⟩:=rx
 obtain ⟨t',rfl⟩:=ry
 exact rule i j t t' s _ _ ⟨.bl (g i j),H,I,rfl,q⟩
def CDiv (i j:Int):Prop:=0 < j∧j < 1073741824
def qgf (i j:Int):Prop:=0≤j∧j≤1000000∧i.natAbs < 2 ^ 64
def CMul (i j:Int):Prop:=(-(2 ^ 64) < i∧i < 2 ^ 64)∨(-(2 ^ 64) < j∧j < 2 ^ 64)
theorem CMul.ok {i j:Int} (h:CMul i j):IntMulOk i j:=by
 rcases h with ⟨h1,h2⟩ | ⟨h1,h2⟩
 ·exact .of_left (intBits_le_64 h1 h2)
 ·exact .of_right (intBits_le_64 h1 h2)
theorem two_pow_nn (k:Nat):(0:Int)≤2 ^ k:=by
 rw [two_pow_cast]
 exact Int.natCast_nonneg _
theorem op_add:OpR X (binaryOp .Add) (rI0 fun i j=>.int (i + j)):=qfN fun _ _ _ _ _ _ _ q=>add_int q
theorem qaU:OpR X (binaryOp .Sub) (rI0 fun i j=>.int (i - j)):=qfN fun _ _ _ _ _ _ _ q=>sub_int q
theorem op_mul:OpR X (binaryOp .Mult) (rI CMul fun i j=>.int (i * j)):=opI fun _ _ _ _ _ _ _ hc q=>mul_int q hc.ok
theorem qdy:OpR X (binaryOp .FloorDiv) (rI CDiv fun i j=>.int (i / j)):=opI fun i j _ _ _ _ _ hc q=>by
 have h1:(0:Int) < j:=hc.1
 have h2:j < 1073741824:=hc.2
 exact floordiv_int (by omega) (by rw [Int.fdiv_eq_ediv_of_nonneg i (by omega)];exact q) (.inl (PyProof.noPylong_small (by omega)))
theorem jR:OpR X (binaryOp .Mod) (rI (fun _ j=>0 < j) fun i j=>.int (i % j)):=opI fun i j _ _ _ _ _ hc q=>by
 have h1:(0:Int) < j:=hc
 exact mod_int' (by omega) (by rw [Int.fmod_eq_emod_of_nonneg i (by omega)];exact q)
theorem op_pow:OpR X (binaryOp .Pow) (rI qgf fun i j=>.int (i ^ j.toNat)):=opI fun _ _ _ _ _ _ _ hc q=>pow_int_small hc.1 hc.2.1 hc.2.2 q
theorem qaV:OpR X (binaryOp .LShift) (rI qgf fun i j=>.int (i * 2 ^ j.toNat)):=opI fun _ _ _ _ _ _ _ hc q=>lshift_int_small hc.1 hc.2.1 hc.2.2 q
theorem qcN:OpR X (binaryOp .RShift) (rI (fun _ j=>0≤j) fun i j=>.int (i / 2 ^ j.toNat)):=opI fun i j _ _ _ _ _ hc q =>
 rshift_int hc (by rw [Int.fdiv_eq_ediv_of_nonneg i (two_pow_nn _)];exact q)
theorem qaW:OpR X (binaryOp .BitAnd) (rI0 fun i j=>.int (Builtin.bitAnd i j)):=qfN fun _ _ _ _ _ _ _ q=>and_int q
theorem qcp:OpR X (binaryOp .BitOr) (rI0 fun i j=>.int (Builtin.bitOr i j)):=qfN fun _ _ _ _ _ _ _ q=>or_int q
theorem unI {f:Value→Sem Value} {g:Int→Int}
  (rule:∀ (i:Int) (t:Tok) (s:Shared) (Q:Value→Shared→Prop) (E:Value→Shared→Prop),Q (.int (g i) s.toks) { s with toks:=s.toks + 1 }→wpAny (model X.prog X.w) X.A (f (.int i t)) Q E s) :
  UnR X f (rU fun i=>.int (g i)):=by
 intro pins s σ H x v Q I rx h
 obtain ⟨i,rfl,q⟩:=h
 obtain ⟨t,rfl⟩:=rx
 exact rule i t s _ _ ⟨.int (g i),H,I.tok _,⟨_,rfl⟩,q⟩
theorem un_neg:UnR X (unaryOp .USub) (rU fun i=>.int (-i)):=unI fun _ _ _ _ _ q=>neg_int q
theorem qen:UnR X (unaryOp .Invert) (rU fun i=>.int (Builtin.bitNot i)):=unI fun _ _ _ _ _ q=>invert_int q
end
def scal:V→V→Bool
 | .non,.non=>true | .non,.int _=>true | .int _,.non=>true | .non,.bl _=>true | .bl _,.non=>true | .non,.str _=>true | .str _,.non=>true
 | .int _,.int _=>true | .bl _,.bl _=>true | .str _,.str _=>true | .byt _,.byt _=>true
 | .int _,.str _=>true | .str _,.int _=>true | .bl _,.str _=>true | .str _,.bl _=>true
 | _,_=>false
def rEq:R2:=fun x y H Q=>scal x y=true∧Q (.bl (decide (x=y))) H
theorem dec_bl {i j:Bool}:decide (V.bl i=V.bl j)=(i==j):=by
 rw [Bool.eq_iff_iff]
 simp
section
variable {X:Cx} {a b c:Expr} {ta tb tc:TE} {pos:Pos}
theorem fin_bl {pins:List (Addr×Obj)} {σ:St} {H:Hp} {s:Shared} {Q:VK} {k k':Bool} (I:Inv X pins σ H s) (q:Q (.bl k) H) (e:k=k'):EP X pins σ Q (.bool k') s:=by
 subst e
 exact ⟨.bl k,H,I,rfl,q⟩
theorem qdz:OpR X (compareOp .Lt) (rI0 fun i j=>.bl (decide (i < j))):=qf0 fun _ _ _ _ _ _ _ q=>lt_int q
theorem op_le:OpR X (compareOp .LtE) (rI0 fun i j=>.bl (decide (i≤j))):=qf0 fun _ _ _ _ _ _ _ q=>le_int q
theorem qeT:OpR X (compareOp .Gt) (rI0 fun i j=>.bl (decide (j < i))):=qf0 fun _ _ _ _ _ _ _ q=>gt_int q
theorem qB (b:Expr) {op:CmpOp} (h:op≠.In:=by decide) (h2:op≠.NotIn:=by decide):behindInMarks op b=false:=by
 have e1:(op==CmpOp.In)=false:=by cases op<;>first | rfl | exact absurd rfl h
 have e2:(op==CmpOp.NotIn)=false:=by cases op<;>first | rfl | exact absurd rfl h2
 cases b<;>simp [behindInMarks,e1,e2]
theorem qaX {op:CmpOp} {r:R2} (ho:OpR X (compareOp op) r) (ha:PE X a ta) (hb:PE X b tb) (hm:behindInMarks op b=false):PE X (.Compare a [op] [b] pos) (tOp r ta tb):=by
 intro pins s σ H Q I h
 exact wpAny_Compare1 (qfZ ha hb I h fun v u s2 x y H2 I2 rx ry q=>ho pins s2 σ H2 x y v u Q I2 rx ry q) hm
def qeU (t:TE):TT:=fun σ H Q=>t σ H fun x H'=>∃ k,x=.bl k∧Q k H'
theorem qt {op:CmpOp} {r:R2} (ho:OpR X (compareOp op) r) (ha:PE X a ta) (hb:PE X b tb) (hm:behindInMarks op b=false):PT X (.Compare a [op] [b] pos) (qeU (tOp r ta tb)):=by
 intro pins s σ H Q I h
 refine wpAny_isTrue_Compare1 (thn (ha pins s σ H _ I h) fun v s1 ⟨x,H1,I1,r1,q1⟩=>thn (hb pins s1 σ H1 _ I1 q1) fun u s2 ⟨y,H2,I2,r2,q2⟩ =>
  thn (ho pins s2 σ H2 x y v u _ I2 r1 r2 q2) fun c s3 ⟨z,H3,I3,r3,k,e,q3⟩=>?_) hm
 subst e
 cases r3
 exact wpAny_truthy_bool ⟨H3,I3,q3⟩
def qdA (r r':R2) (ta tb tc:TE):TE:=fun σ H Q=>ta σ H fun x H1=>tb σ H1 fun y H2=>r x y H2 fun z H3=>∃ k,z=.bl k ∧
 (if k=true then tc σ H3 fun w' H4=>r' y w' H4 Q else Q (.bl false) H3)
theorem pe_chain {op op':CmpOp} {r r':R2} (ho:OpR X (compareOp op) r) (ho':OpR X (compareOp op') r') (ha:PE X a ta) (hb:PE X b tb) (hc:PE X c tc)
  (hm:lastMarks [op,op'] [b,c]=false:=by with_unfolding_all rfl):PE X (.Compare a [op,op'] [b,c] pos) (qdA r r' ta tb tc):=by
 intro pins s σ H Q I h
 refine Compare_chain (thn (ha pins s σ H _ I h) fun v s1 ⟨x,H1,I1,r1,q1⟩=>chain_link (thn (hb pins s1 σ H1 _ I1 q1) fun u s2 ⟨y,H2,I2,r2,q2⟩ =>
  thn (ho pins s2 σ H2 x y v u _ I2 r1 r2 q2) fun d s3 ⟨z,H3,I3,r3,k,e,q3⟩=>?_)) hm
 subst e
 cases r3
 refine wpAny_truthy_bool ?_
 cases k with
 | false=>exact ite_ff ⟨.bl false,H3,I3,rfl,q3⟩
 | true=>exact ite_tt (chain_last (thn (hc pins s3 σ H3 _ I3 q3) fun w' s4 ⟨z',H4,I4,r4,q4⟩=>ho' pins s4 σ H4 y z' u w' Q I4 r2 r4 q4))
theorem pt_chain {op op':CmpOp} {r r':R2} (ho:OpR X (compareOp op) r) (ho':OpR X (compareOp op') r') (ha:PE X a ta) (hb:PE X b tb) (hc:PE X c tc)
  (hm:lastMarks [op,op'] [b,c]=false:=by with_unfolding_all rfl):PT X (.Compare a [op,op'] [b,c] pos) (qeU (qdA r r' ta tb tc)):=by
 intro pins s σ H Q I h
 refine isTrue_chain (thn (ha pins s σ H _ I h) fun v s1 ⟨x,H1,I1,r1,q1⟩=>test_link (thn (hb pins s1 σ H1 _ I1 q1) fun u s2 ⟨y,H2,I2,r2,q2⟩ =>
  thn (ho pins s2 σ H2 x y v u _ I2 r1 r2 q2) fun d s3 ⟨z,H3,I3,r3,k,e,q3⟩=>?_)) hm
 subst e
 cases r3
 refine wpAny_truthy_bool ?_
 cases k with
 | false =>
  obtain ⟨k',e',q'⟩:=q3
  cases e'
  exact ite_ff ⟨H3,I3,q'⟩
 | true =>
  refine ite_tt (test_last (thn (hc pins s3 σ H3 _ I3 q3) fun w' s4 ⟨z',H4,I4,r4,q4⟩=>thn (ho' pins s4 σ H4 y z' u w' _ I4 r2 r4 q4) fun d' s5 ⟨z2,H5,I5,r5,k2,e2,q5⟩=>?_))
  subst e2
  cases r5
  exact wpAny_truthy_bool ⟨H5,I5,q5⟩
theorem qbh:(sizeLine:Nat) < 2 ^ 63:=by rw [sizeLine_eq];decide
theorem op_add_str:OpR X (binaryOp .Add) (fun x y H Q=>∃ i j,x=.str i∧y=.str j∧i.length + j.length≤sizeLine∧Q (.str (i++j)) H):=by
 intro pins s σ H x y v u Q I rx ry h
 obtain ⟨i,j,rfl,rfl,hz,q⟩:=h
 obtain ⟨t,rfl⟩:=rx
 obtain ⟨t',rfl⟩:=ry
 exact add_str (fun t' tk=>⟨.str (i++j),H,I.tok _,⟨_,rfl⟩,q⟩) hz
theorem qaH {x:V} {us:List Value} (r:Vals [x] us):∃ u,us=[u]∧RelV x u:=by
 cases r with
 | cons r1 r2=>cases r2;exact ⟨_,rfl,r1⟩
theorem qeh {x y:V} {us:List Value} (r:Vals [x,y] us):∃ u w',us=[u,w']∧RelV x u∧RelV y w':=by
 cases r with
 | cons r1 r2 =>
  cases r2 with
  | cons r3 r4=>cases r4;exact ⟨_,_,rfl,r1,r3⟩
theorem qbH (hc:X.calm=true):zm X (.builtin "max") (fun xs H Q=>∃ i j,xs=[.int i,.int j]∧Q (.int (if j > i then j else i)) H):=by
 intro pins s σ H xs us Q I r h
 obtain ⟨i,j,rfl,q⟩:=h
 obtain ⟨u,w',rfl,⟨t,rfl⟩,⟨t',rfl⟩⟩:=qeh r
 refine max_two_ints (I.ok.hd hc) fun h' tk k=>⟨_,H,I.kept k,?_,q⟩
 by_cases hj:j > i
 ·rw [if_pos hj,if_pos hj];exact ⟨_,rfl⟩
 ·rw [if_neg hj,if_neg hj];exact ⟨_,rfl⟩
theorem call_int1:zm X (.type "int") (fun xs H Q=>(∃ i,xs=[.int i]∧Q (.int i) H)∨∃ k,xs=[.bl k]∧Q (.int (if k then 1 else 0)) H):=by
 intro pins s σ H xs us Q I r h
 rcases h with ⟨i,rfl,q⟩ | ⟨k,rfl,q⟩
 ·obtain ⟨u,rfl,t,rfl⟩:=qaH r
  exact call_int_int ⟨.int i,H,I,⟨_,rfl⟩,q⟩
 ·obtain ⟨u,rfl,r1⟩:=qaH r
  cases r1
  exact call_int_bool ⟨.int (if k then 1 else 0),H,I.tok _,⟨_,rfl⟩,q⟩
end
end L2
namespace L2
open PySem PySem.Spec PyProof.Rows
structure ObjM (h:Heap) (x dx C:Addr) (mA:Str→Option Value):Prop where
 obj:h.get? x=some (PySem.W.instObj C dx)
 ns:h.Ns1 dx mA
 ne:dx≠x
theorem qbI {h:Heap} {dx:Addr} {mA:Str→Option Value} (n:h.Ns1 dx mA):∃ od,h.get? dx=some od∧∀ name,PySem.W.lookIn name od=some (mA name):=by
 obtain ⟨o,es,ep,ho,hd,hk,_,hm⟩:=n
 refine ⟨o,ho,fun name=>?_⟩
 have e:=hm name
 unfold nsFind findBy at e
 rw [← Array.find?_toList] at e
 unfold PySem.W.lookIn
 rw [hd]
 dsimp only
 split
 ·rename_i y q
  rw [q] at e
  exact congrArg some e
 ·rename_i q
  rw [q] at e
  have a:es.toList.any (·.refKey)=false:=by
   rw [List.any_eq_false]
   intro y hy
   obtain ⟨z,t,hkey⟩:=hk y (Array.mem_toList_iff.mp hy)
   simp [DictEntry.refKey,hkey]
  have a':¬ es.toList.any (·.refKey)=true:=by rw [a];exact Bool.false_ne_true
  rw [if_neg a']
  exact congrArg some e
theorem ObjM.look {h:Heap} {x dx C:Addr} {mA:Str→Option Value} (I:ObjM h x dx C mA):∃ od,PySem.W.InstAt h x (PySem.W.instObj C dx) C (some od)∧∀ name,PySem.W.lookIn name od=some (mA name):=
 let ⟨od,ho,hl⟩:=qbI I.ns
 ⟨od,⟨I.obj,rfl,rfl,ho⟩,hl⟩
section
variable {prog:Program} {w:World} {A:Around} {E:Value→Shared→Prop} {s:Shared} {K:PySem.W.Frag} {x dx C f:Addr} {mA:Str→Option Value} {name:Str} {v:Value}
theorem get_map {expr:Bool} {Q:Value→Shared→Prop} (X:K.In s.heap) (I:ObjM s.heap x dx C mA) (hg:PySem.W.plainGet K C name=true) (hh:PySem.W.hasDictIn K C=true)
  (ha:PySem.W.findIn K (.ref C) name=some none) (hv:mA name=some v) (hv':PySem.W.handedIn v=true) (h:Q v { s with toks:=s.toks + 1 }) :
  wpAny (model prog w) A (getAttr (.ref x) name expr) Q E s:=by
 obtain ⟨od,J,hl⟩:=I.look
 exact PySem.W.get_value X J (PySem.W.plainGet_of hg).1 (PySem.W.findObj_own hh ha rfl (by rw [hl,hv])) hv' h
theorem get_meth {pl:Sem Bool} {Q:Value×List Value→Shared→Prop} (X:K.In s.heap) (I:ObjM s.heap x dx C mA) (hg:PySem.W.plainGet K C name=true)
  (hf:PySem.W.findIn K (.ref C) name=some (some (.ref f))) (ht:PySem.W.isFn K (.ref f)=true) (hv:mA name=none) (h:Q (.ref f,[.ref x]) s) :
  wpAny (model prog w) A (getMethod (.ref x) name pl) Q E s:=by
 obtain ⟨od,J,hl⟩:=I.look
 exact PySem.W.method_fn X J (PySem.W.plainGet_of hg).1 (PySem.W.plainGet_of hg).2 hf (beq_iff_eq.mp ht) (by show (PySem.W.lookIn name od).map (·.isSome)=some false;rw [hl,hv];rfl) h
theorem set_map {ns:List Str} {Q:Unit→Shared→Prop} (X:K.In s.heap) (I:ObjM s.heap x dx C mA)
  (hs:PySem.W.findIn K (.ref C) "__setattr__"=some (some (.builtin "object.__setattr__"))) (hp:PySem.W.plainOver K C=true) (ht:PySem.W.takerIn K C name=some none) (hh:PySem.W.hasDictIn K C=true)
  (hw:PySem.Within mA ns) (hsz:ns.length≤sizeLine)
  (h:∀ h',ObjM h' x dx C (fun y=>if y=name then some v else mA y)→Heap.SameBut dx s.heap h'→Q () { s with heap:=h',toks:=s.toks + 2 }) :
  wpAny (model prog w) A (setAttr (.ref x) name v) Q E s:=by
 obtain ⟨od,J,hl⟩:=I.look
 refine PySem.W.set_plain X J hs (PySem.W.osa_open (s:={ s with toks:=s.toks + 1 }) (r:=none) X J hp ht fun b=>?_)
 obtain ⟨cd,hc,hd'⟩:=PySem.W.any_some hh
 have hx:s.heap.get? x=some ⟨.ref C,some dx,.plain,#[]⟩:=I.obj
 refine wpAny_bind (wpAny_pure (wpAny_bind (wpAny_bind (wpAny_loadPart hx (wpAny_bind (PySem.W.Looks.here (s:={ s with toks:=s.toks + 1 }) (PySem.W.looks_clsIn X hc) ?_))))))
 rw [hd']
 refine wpAny_pure (a:=some dx) (wpAny_bind (wpAny_pure (wpAny_bind ?_)))
 refine wpAny_nsSet1 (s:={ s with toks:=s.toks + 1 }) I.ns fun h' hn2 hs2=>?_
 obtain ⟨oD,esD,epD,hoD,hdD,hcD⟩:=hn2.count (PySem.Within.cons name v hw)
 refine wpAny_bind (wpAny_lookBehind hoD (by rw [hdD];exact pastItsLine_dict (Nat.le_trans hcD (by rw [List.length_cons];omega))) ?_)
 exact wpAny_pure (h _ ⟨(hs2.2 _ (Ne.symm I.ne)).trans I.obj,hn2,I.ne⟩ hs2)
theorem qcO {R:Result→Shared→Prop} {vs:List Value} {kw:List (Str×Value)} (X:K.In s.heap) (hm:PySem.W.makesIn K C=true)
  (hi:PySem.W.findIn K (.ref C) "__init__"=some (some (.ref f))) (hf:PySem.W.typeIn K (.ref f)=some (.type "function"))
  (h:codeAny (model prog w) (A.under (.builtin "type.__call__" ⟨.ref C::vs,kw⟩)) (.call (.ref f) ⟨.ref (s.heap.objs.size + 1)::vs,kw⟩) (PySem.W.InitBack (s.heap.objs.size + 1) R)
   { s with heap:=(s.heap.push PySem.W.emptyDict).push (PySem.W.instObj C s.heap.objs.size) }) :
  codeAny (model prog w) A (.call (.ref C) ⟨vs,kw⟩) R s:=by
 obtain ⟨hh,g,d,t,os⟩:=s
 exact PySem.W.make_core (PySem.W.makes_of X hm) (PySem.W.looks_findIn X hi) (fun self=>PySem.W.bind_fn X self hf) (.inl rfl) h
end
def jF (f:Str) (v:V):List (Str×V)→List (Str×V)
 | []=>[(f,v)]
 | (g,x)::r=>if g=f then (g,v)::r else (g,x)::jF f v r
theorem qz (f g:Str) (v:V):∀ fs:List (Str×V),(jF f v fs).lookup g=if g=f then some v else fs.lookup g
 | []=>by
  show List.lookup g [(f,v)]=_
  by_cases h:g=f
  ·have hb:(g==f)=true:=beq_iff_eq.mpr h
   simp only [List.lookup,hb,if_pos h]
  ·have hb:(g==f)=false:=beq_eq_false_iff_ne.mpr h
   simp only [List.lookup,hb,if_neg h]
 | (k,x)::r=>by
  have ih:=qz f g v r
  rw [show jF f v ((k,x)::r)=(if k=f then (k,v)::r else (k,x)::jF f v r) from rfl]
  by_cases hk:k=f
  ·rw [if_pos hk]
   by_cases h:g=k
   ·have hb:(g==k)=true:=beq_iff_eq.mpr h
    simp only [List.lookup,hb,if_pos (h.trans hk)]
   ·have hb:(g==k)=false:=beq_eq_false_iff_ne.mpr h
    simp only [List.lookup,hb,if_neg (fun e:g=f=>h (e.trans hk.symm))]
  ·rw [if_neg hk]
   by_cases h:g=k
   ·have hb:(g==k)=true:=beq_iff_eq.mpr h
    simp only [List.lookup,hb,if_neg (fun e:g=f=>hk (h.symm.trans e))]
   ·have hb:(g==k)=false:=beq_eq_false_iff_ne.mpr h
    simp only [List.lookup,hb]
    exact ih
theorem qaY (f:Str) (v:V):∀ fs:List (Str×V),f∈(jF f v fs).map (·.1)∧∀ g,g∈fs.map (·.1)→g∈(jF f v fs).map (·.1)
 | []=>⟨by simp [jF],fun g h=>by simp at h⟩
 | (k,x)::r=>by
  obtain ⟨i1,i2⟩:=qaY f v r
  rw [show jF f v ((k,x)::r)=(if k=f then (k,v)::r else (k,x)::jF f v r) from rfl]
  by_cases hk:k=f
  ·rw [if_pos hk]
   subst hk
   exact ⟨by simp,fun g h=>by simpa using h⟩
  ·rw [if_neg hk]
   refine ⟨?_,fun g h=>?_⟩
   ·rw [List.map_cons]
    exact List.mem_cons_of_mem _ i1
   ·rw [List.map_cons] at h ⊢
    rcases List.mem_cons.mp h with e | e
    ·exact List.mem_cons.mpr (.inl e)
    ·exact List.mem_cons_of_mem _ (i2 g e)
theorem j0 (f:Str) (v:V):∀ fs:List (Str×V),(jF f v fs).length≤fs.length + 1
 | []=>by simp [jF]
 | (k,x)::r=>by
  have ih:=j0 f v r
  rw [show jF f v ((k,x)::r)=(if k=f then (k,v)::r else (k,x)::jF f v r) from rfl]
  by_cases hk:k=f
  ·rw [if_pos hk,List.length_cons,List.length_cons];omega
  ·rw [if_neg hk,List.length_cons,List.length_cons];omega
theorem RelO.some_of {v:V} {o:Option Value} (r:RelO (some v) o):∃ u,o=some u∧RelV v u:=by
 cases o with
 | none=>exact (show False from r).elim
 | some u=>exact ⟨u,rfl,r⟩
theorem RelO.none_of {o:Option Value} (r:RelO none o):o=none:=by
 cases o with
 | none=>rfl
 | some u=>exact (show False from r).elim
theorem qbJ {v:V} {u:Value} (r:RelV v u):PySem.W.handedIn u=true:=by
 cases v with
 | non=>cases (show u=Value.none from r);rfl
 | bl b=>cases (show u=Value.bool b from r);rfl
 | int i=>obtain ⟨t,e⟩:=(show ∃ t,u=Value.int i t from r);cases e;rfl
 | str x=>obtain ⟨t,e⟩:=(show ∃ t,u=Value.str x t from r);cases e;rfl
 | byt b=>obtain ⟨t,e⟩:=(show ∃ t,u=Value.bytes b t from r);cases e;rfl
 | flt b=>obtain ⟨t,e⟩:=(show ∃ t,u=Value.float b t from r);cases e;rfl
 | ref a=>cases (show u=Value.ref a from r);rfl
 | ty n=>cases (show u=Value.type n from r);rfl
section
variable {P:Program} {w:World} {H H':Hp} {h h':Heap} {a C dx:Addr} {fs fs':List (Str×V)}
theorem qas (hok:HOk P w H h) (e:H a=some (.ins C dx fs)):∃ mA,ObjM h a dx C mA∧(∀ f,RelO (fs.lookup f) (mA f))∧PySem.Within mA (fs.map (·.1))∧fs.length≤1000∧H dx=some (.own a):=by
 obtain ⟨d,z,ne,ob,mA,n,r,q⟩:=(show ObjOk P w H h a (.ins C dx fs) from hok a _ e)
 exact ⟨mA,⟨ob,n,ne⟩,r,q,z,d⟩
end
structure Cls (K:PySem.W.Frag) (C:Addr):Prop where
 pg:PySem.W.plainGet K C Str.empty=true
 hd:PySem.W.hasDictIn K C=true
 po:PySem.W.plainOver K C=true
 sa:PySem.W.findIn K (.ref C) "__setattr__"=some (some (.builtin "object.__setattr__"))
theorem Cls.get {K:PySem.W.Frag} {C:Addr} (c:Cls K C) (f:Str):PySem.W.plainGet K C f=true:=c.pg
def NoAttr (K:PySem.W.Frag) (C:Addr) (f:Str):Prop:=PySem.W.findIn K (.ref C) f=some none
theorem NoAttr.taker {K:PySem.W.Frag} {C:Addr} {f:Str} (n:NoAttr K C f):PySem.W.takerIn K C f=some none:=by
 unfold PySem.W.takerIn
 rw [show PySem.W.findIn K (.ref C) f=some none from n]
 rfl
structure Con (K:PySem.W.Frag) (C:Addr) (f:Str) (v:V) (u:Value):Prop where
 at_:PySem.W.findIn K (.ref C) f=some (some u)
 rel:RelV v u
 get:PySem.W.specialIn K u "__get__"=some none
 cp:PySem.W.copiedNames.contains f=false
structure Meth (K:PySem.W.Frag) (C:Addr) (m:Str) (f:Addr):Prop where
 at_:PySem.W.findIn K (.ref C) m=some (some (.ref f))
 fn:PySem.W.isFn K (.ref f)=true
 kp:PySem.W.keepIn K (.ref f)=true
section
variable {X:Cx} {pins:List (Addr×Obj)} {σ:St} {H:Hp} {s:Shared} {a C dx:Addr} {fs:List (Str×V)} {f:Str} {v:V} {A:Around} {E:Value→Shared→Prop}
theorem getattr_ok {b:Bool} {Q:Value→Shared→Prop} (I:Inv X pins σ H s) (e:H a=some (.ins C dx fs)) (c:Cls X.K C) (n:NoAttr X.K C f) (l:fs.lookup f=some v)
  (h:∀ u s',Inv X pins σ H s'→RelV v u→Q u s'):wpAny (model X.prog X.w) A (getAttr (.ref a) f b) Q E s:=by
 obtain ⟨mA,O,r,_,_,_⟩:=qas I.hok e
 obtain ⟨u,hu,ru⟩:=RelO.some_of (v:=v) (o:=mA f) (by rw [← l];exact r f)
 exact get_map I.kIn O (c.get f) c.hd n hu (qbJ ru) (h u _ (I.tok _) ru)
theorem qat {m:Str} {g:Addr} {pl:Sem Bool} {Q:Value×List Value→Shared→Prop} (I:Inv X pins σ H s) (e:H a=some (.ins C dx fs)) (c:Cls X.K C) (k:Meth X.K C m g) (l:fs.lookup m=none)
  (h:Q (.ref g,[.ref a]) s):wpAny (model X.prog X.w) A (getMethod (.ref a) m pl) Q E s:=by
 obtain ⟨mA,O,r,_,_,_⟩:=qas I.hok e
 have hn:mA m=none:=RelO.none_of (by rw [← l];exact r m)
 exact get_meth I.kIn O (c.get m) k.at_ k.fn hn h
theorem setattr_ok {y:V} {u:Value} {Q:Unit→Shared→Prop} (I:Inv X pins σ H s) (e:H a=some (.ins C dx fs)) (c:Cls X.K C) (n:NoAttr X.K C f) (hl:fs.length < 1000) (ry:RelV y u)
  (h:∀ s',Inv X pins σ (upd H a (.ins C dx (jF f y fs))) s'→Q () s'):wpAny (model X.prog X.w) A (setAttr (.ref a) f u) Q E s:=by
 obtain ⟨mA,O,r,wi,_,ho⟩:=qas I.hok e
 have hz:(fs.map (·.1)).length≤sizeLine:=by rw [List.length_map,sizeLine_eq];omega
 refine set_map I.kIn O c.sa c.po n.taker c.hd wi hz fun h' O' sb=>h _ ?_
 have hd:∃ o,h'.get? dx=some o:=let ⟨o,_,_,e',_⟩:=O'.ns;⟨o,e'⟩
 refine I.write (x:=a) (e:=dx) (by rw [e];exact True.intro) (.inr ho) (fun b q hb z=>(sb.2 b hb).trans z) hd ?_
 refine ⟨by rw [qi O.ne];exact ho,?_,O.ne,O'.obj,_,O'.ns,fun g=>?_,fun g hg=>?_⟩
 ·have:=j0 f y fs;omega
 ·show RelO ((jF f y fs).lookup g) (if g=f then some u else mA g)
  rw [qz]
  by_cases q:g=f
  ·rw [if_pos q,if_pos q];exact ry
  ·rw [if_neg q,if_neg q];exact r g
 ·by_cases q:g=f
  ·rw [q];exact (qaY f y fs).1
  ·refine (qaY f y fs).2 g (wi g fun z=>hg ?_)
   show (if g=f then some u else mA g)=none
   rw [if_neg q];exact z
theorem Inv.made (I:Inv X pins σ H s):Inv X pins σ (upd (upd H s.heap.objs.size (.own (s.heap.objs.size + 1))) (s.heap.objs.size + 1) (.ins C s.heap.objs.size []))
  { s with heap:=(s.heap.push PySem.W.emptyDict).push (PySem.W.instObj C s.heap.objs.size) }:=by
 have e1:(s.heap.push PySem.W.emptyDict).get? s.heap.objs.size=some PySem.W.emptyDict:=Heap.get?_push_size s.heap rfl
 have e2:((s.heap.push PySem.W.emptyDict).push (PySem.W.instObj C s.heap.objs.size)).get? (s.heap.objs.size + 1)=some (PySem.W.instObj C s.heap.objs.size):=by
  have:=Heap.get?_push_size (s.heap.push PySem.W.emptyDict) (o:=PySem.W.instObj C s.heap.objs.size) rfl
  rwa [Heap.size_push] at this
 have e3:(s.heap.push PySem.W.emptyDict).Ns s.heap.objs.size (fun _=>none):=⟨PySem.W.emptyDict,#[],_,e1,rfl,(fun e he=>absurd he (by simp)),fun _=>rfl⟩
 have I1:=I.laid (a:=s.heap.objs.size) (o:=.own (s.heap.objs.size + 1)) (h':=s.heap.push PySem.W.emptyDict) (t':=s.toks) (fun b u q=>Heap.get?_push_of_some _ q) (Nat.le_refl _) ⟨_,e1⟩
 refine I1.laid (a:=s.heap.objs.size + 1) (o:=.ins C s.heap.objs.size []) (t':=s.toks) (fun b u q=>Heap.get?_push_of_some _ q) (Nat.le_of_eq (Heap.size_push _ _)) ?_
 have ne:s.heap.objs.size≠s.heap.objs.size + 1:=Nat.ne_of_lt (Nat.lt_succ_self _)
 refine ⟨by rw [qi ne,qb],Nat.zero_le _,ne,e2,fun _=>none,(Heap.Ns1.of_empty e3).at fun o q=>Heap.get?_push_of_some _ q,fun _=>True.intro,fun y hy=>absurd rfl hy⟩
theorem attr_of {prog:Program} {w:World} {env:Env} {e:Expr} {f:Str} {pos:Pos} {s:Shared} {Q:Value→Shared→Prop} (hb:attributeBase e f env (eval e env)=eval e env)
  (h:wpAny (model prog w) A (eval e env) (fun o s₁=>wpAny (model prog w) A (getAttr o f true) Q E s₁) E s):wpAny (model prog w) A (eval (.Attribute e f pos) env) Q E s:=
 Attribute_any_ h (by rw [arm_eval_Attribute,hb])
end
section
variable {X:Cx} {o e value:Expr} {f:Str} {pos pos' tpos:Pos} {ta tv:TE}
end
section
variable {X:Cx} {pins:List (Addr×Obj)} {σ:St} {H:Hp} {s:Shared} {A:Around} {E:Value→Shared→Prop} {Q:Value→Shared→Prop} {c:Value} {b:Bool}
inductive TyOf (K:PySem.W.Frag) (H:Hp):V→Value→Prop where
 | non:TyOf K H .non (.type "NoneType")
 | bl (x:Bool):TyOf K H (.bl x) (.type "bool")
 | int (i:Int):TyOf K H (.int i) (.type "int")
 | str (x:Str):TyOf K H (.str x) (.type "str")
 | flt (x:UInt64):TyOf K H (.flt x) (.type "float")
 | lst {a:Addr} {xs:List V} (e:H a=some (.lst xs)):TyOf K H (.ref a) (.type "list")
 | frz {a:Addr} {o:Obj} {xs:List V} (e:H a=some (.frz o (.lst xs))):TyOf K H (.ref a) (.type "list")
 | tup {a:Addr} {xs:List V} (e:H a=some (.tup xs)):TyOf K H (.ref a) (.type "tuple")
 | dK {a:Addr} {kvs:List (Key×V)} (e:H a=some (.dK kvs)):TyOf K H (.ref a) (.type "dict")
 | dT {a:Addr} {kvs:List (List Key×V)} (e:H a=some (.dT kvs)):TyOf K H (.ref a) (.type "dict")
 | ins {a C dx:Addr} {fs:List (Str×V)} (e:H a=some (.ins C dx fs)) (cl:Cls K C) (ha:PySem.W.findIn K (.ref C) "__class__"=some (some (.builtin "object.__class__")))
   (hn:PySem.W.specialIn K (.builtin "object.__class__") "__get__"=some (some (.builtin "getset_descriptor.__get__"))) (htk:PySem.W.takesIn K (.builtin "object.__class__")=some true)
   (hm:PySem.W.mroIn K C (.type "object")=some true):TyOf K H (.ref a) (.ref C)
end
end L2
namespace L2
open PySem PySem.Spec PyProof.Rows
structure Room (k:Nat) (A:Around):Prop where
 hd:A.handled=none
 dp:A.depth + 3 * k + 5 < recursionLimit
 un:A.units + 16 * k + 200 < cLine
 gd:A.guards=some []
theorem Room.mono {j k:Nat} {A:Around} (r:Room k A) (h:j≤k):Room j A:=⟨r.hd,by have:=r.dp;omega,by have:=r.un;omega,r.gd⟩
theorem Room.deeper {k:Nat} {A:Around} (r:Room (k + 1) A) (env:Env):Room k (A.deeper env):=
 ⟨r.hd,by have:=r.dp;show A.depth + 1 + 3 * k + 5 < _;omega,by have:=r.un;show A.units + 3 + 16 * k + 200 < _;omega,r.gd⟩
theorem make_depth {A:Around} {C:Addr} {us:List Value} {kw:List (Str×Value)}:(A.under (.builtin "type.__call__" ⟨.ref C::us,kw⟩)).depth=A.depth + 1:=by
 first | rfl | simp [Around.under,Code.weight,Code.isCreation,Code.isGuard,Code.isCaller,Code.frames,Code.isFrame,guardIds]
theorem make_units {A:Around} {C:Addr} {us:List Value} {kw:List (Str×Value)}:(A.under (.builtin "type.__call__" ⟨.ref C::us,kw⟩)).units=A.units + 1:=by
 first | rfl | simp [Around.under,Code.cUnits,Code.frames,Code.isFrame]
theorem make_guards {A:Around} {C:Addr} {us:List Value} {kw:List (Str×Value)}:(A.under (.builtin "type.__call__" ⟨.ref C::us,kw⟩)).guards=A.guards:=by
 first | rfl | simp [Around.under,Code.guards,Code.isGuard,guardIds,pushGuards]
theorem Room.make {k:Nat} {A:Around} (r:Room (k + 1) A) (C:Addr) (us:List Value) (kw:List (Str×Value)):Room k (A.under (.builtin "type.__call__" ⟨.ref C::us,kw⟩)):=
 ⟨r.hd,by have:=r.dp;rw [make_depth];omega,by have:=r.un;rw [make_units];omega,by rw [make_guards];exact r.gd⟩
theorem Room.depth {k:Nat} {A:Around} (r:Room k A):A.depth < recursionLimit:=by have:=r.dp;omega
def qfO:TA:=fun _ H Q=>Q [] H
def qfj (ta:TE) (tr:TA):TA:=fun σ H Q=>ta σ H fun x H1=>tr σ H1 fun xs H2=>Q (x::xs) H2
section
variable {X:Cx} {e:Expr} {es:List Expr} {te:TE} {t:TA} {pos:Pos}
theorem qc:PA X [] qfO:=fun _ _ _ _ H Q I h=>Calls.spliced_nil ⟨[],H,I,.nil,h⟩
theorem qa (ha:PE X e te) (hr:PA X es t) (hs:starEach (e::es) X.env=(false,eval e X.env)::starEach es X.env:=by rfl):PA X (e::es) (qfj te t):=by
 intro pos pins s σ H Q I h
 rw [hs]
 show wpAny _ _ (spliced ((false,eval e X.env)::backTo pos (starEach es X.env))) _ _ s
 refine Calls.spliced_cons (thn (ha pins s σ H _ I h) fun u s1 ⟨x,H1,I1,r1,q1⟩=>?_)
 exact thn (hr pos pins s1 σ H1 _ I1 q1) fun us s2 ⟨xs,H2,I2,r2,q2⟩=>⟨x::xs,H2,I2,.cons r1 r2,q2⟩
def qgg (t:TA):TE:=fun σ H Q=>t σ H fun xs H1=>xs.length≤sizeLine∧∀ p,H1 p=none→Q (.ref p) (upd H1 p (.tup xs))
def qgh (t:TA):TE:=fun σ H Q=>t σ H fun xs H1=>xs.length≤sizeLine∧∀ p,H1 p=none→Q (.ref p) (upd H1 p (.lst xs))
theorem zh {x1} (h:PA X es t):PE X (.Tuple es x1 pos) (qgg t):=by
 intro pins s σ H Q I hq
 refine wpAny_Tuple_spliced (thn (h pos pins s σ H _ I hq) fun us s1 ⟨xs,H1,I1,r,z,q⟩=>⟨by rw [← r.length];exact z,?_⟩)
 have hf:H1 s1.heap.objs.size=none:=I1.hok.fresh (Nat.le_refl _)
 refine ⟨.ref s1.heap.objs.size,upd H1 s1.heap.objs.size (.tup xs),I1.laid (t':=s1.toks) (fun b u e=>Heap.get?_push_of_some _ e) (Nat.le_refl _) ?_,rfl,q _ hf⟩
 exact ⟨z,us,r,⟨_,Heap.get?_push_size _ rfl,rfl,_,rfl⟩⟩
theorem qK (h:PA X es t):PE X (.List es pos) (qgh t):=by
 intro pins s σ H Q I hq
 refine wpAny_List_spliced (thn (h pos pins s σ H _ I hq) fun us s1 ⟨xs,H1,I1,r,z,q⟩=>⟨by rw [← r.length];exact z,?_⟩)
 have hf:H1 s1.heap.objs.size=none:=I1.hok.fresh (Nat.le_refl _)
 refine ⟨.ref s1.heap.objs.size,upd H1 s1.heap.objs.size (.lst xs),I1.laid (t':=s1.toks) (fun b u e=>Heap.get?_push_of_some _ e) (Nat.le_refl _) ?_,rfl,q _ hf⟩
 exact ⟨z,us,0,r,Heap.get?_push_size _ rfl⟩
end
abbrev Sp:=List V→Hp→VK→XK→Prop
abbrev CXT:=List Env→Hp→Shared→XK→Value→Shared→Prop
structure Env0 (P:Program) (w:World) (K:PySem.W.Frag) (mg:Str→Option Value) (base:Heap) (A:Around) (outer:List Env) (s:Shared) (H:Hp):Prop where
 frames:A.frames=some outer
 mod:Mod K mg base
 bs:∀ b o,base.get? b=some o→s.heap.get? b=some o∧H b=none
 bsz:base.objs.size≤s.heap.objs.size
 funs:s.heap.FunFrames base outer
 frf:∀ b∈frs outer,H b=none
 hok:HOk P w H s.heap
 bare:AllBare s.gens
def CE (outer:List Env) (P:Program) (w:World) (H:Hp) (s:Shared) (Q:VK) (u:Value) (s':Shared):Prop:=
 ∃ v H',s'.os=s.os∧AllBare s'.gens∧Un (frs outer) [] H H' s.heap s'.heap∧HOk P w H' s'.heap∧RelV v u∧Q v H'
def CR (CX:CXT) (outer:List Env) (P:Program) (w:World) (H:Hp) (s:Shared) (Q:VK) (E:XK) (r:Result) (s':Shared):Prop:=
 match r with
 | .ok (.ret u)=>CE outer P w H s Q u s'
 | .ok _=>False
 | .error e=>CX outer H s E e s'
structure FnOk (P:Program) (w:World) (K:PySem.W.Frag) (mg:Str→Option Value) (base:Heap) (CX:CXT) (k:Nat) (f:Addr) (fd:FuncData) (ps:List Str) (sp:Sp):Prop where
 len:∀ vs H Q E,sp vs H Q E→vs.length=ps.length
 run:∀ (A:Around) (outer:List Env) (s:Shared) (H:Hp) (args:Args) (us:List Value) (vs:List V) (Q:VK) (E:XK),Room k A→Env0 P w K mg base A outer s H→BindsTo s fd args (ps.zip us)→Vals vs us→sp vs H Q E →
  codeAny (model P w) A (.call (.ref f) args) (CR CX outer P w H s Q E) s
theorem Env0.make {P:Program} {w:World} {K:PySem.W.Frag} {mg:Str→Option Value} {base:Heap} {A:Around} {outer:List Env} {s:Shared} {H:Hp} (e:Env0 P w K mg base A outer s H) (C:Addr) (us:List Value) (kw:List (Str×Value)) :
  Env0 P w K mg base (A.under (.builtin "type.__call__" ⟨.ref C::us,kw⟩)) outer s H:=⟨by first | exact e.frames | (simpa [Around.under,Code.envs,Code.isFrame,pushEnvs] using e.frames),e.mod,e.bs,e.bsz,e.funs,e.frf,e.hok,e.bare⟩
section
variable {X:Cx} {pins:List (Addr×Obj)} {σ:St} {H:Hp} {s s':Shared}
theorem Inv.env0 (I:Inv X pins σ H s):Env0 X.prog X.w X.K X.mg X.base X.A X.stack s H:=
 ⟨I.ok.frames,I.ok.mod,I.bs,Nat.le_trans I.ok.bsz I.sz,I.stack,I.stkFree,I.hok,I.bare⟩
theorem Inv.after {Q:VK} {u:Value} (I:Inv X pins σ H s) (h:CE X.stack X.prog X.w H s Q u s'):EP X pins σ Q u s':=by
 obtain ⟨v,H',os,bare,un,hok,r,q⟩:=h
 obtain ⟨hh,g,d,t,os'⟩:=s'
 obtain rfl:os'=s.os:=os
 exact ⟨v,H',I.call (h':=hh) (g':=g) (d':=d) (t':=t) (ch:=[]) un hok bare (fun b z=>absurd z (by simp)),r,q⟩
end
def qdB (sp:Sp) (dvs:List V) (E:XK) (t:TA):TE:=fun σ H Q=>t σ H fun vs H1=>sp (vs++dvs) H1 Q E
def qdC (C:Addr) (m:Str) (sp:Sp) (dvs:List V) (E:XK) (ta:TE) (t:TA):TE:=fun σ H Q=>ta σ H fun x H1=>∃ a dx fs,x=.ref a∧H1 a=some (.ins C dx fs)∧fs.lookup m=none ∧
 t σ H1 fun vs H2=>sp (x::(vs++dvs)) H2 Q E
def qeV (C:Addr) (sp:Sp) (dvs:List V) (E:XK) (t:TA):TE:=fun σ H Q=>t σ H fun vs H1=>∀ x dx,H1 x=none→H1 dx=none→dx≠x →
 sp (.ref x::(vs++dvs)) (upd (upd H1 dx (.own x)) x (.ins C dx [])) (fun v H2=>v=.non∧Q (.ref x) H2) E
def Binds (K:PySem.W.Frag) (fd:FuncData) (ps:List Str) (ds:List Value):Prop:=
 ∀ (s:Shared) (us:List Value),K.In s.heap→(us++ds).length=ps.length→BindsTo s fd ⟨us,[]⟩ (ps.zip (us++ds))
theorem Binds.all {K:PySem.W.Frag} {fd:FuncData} {ps:List Str} (h:∀ us:List Value,us.length=ps.length→bindArgs fd ⟨us,[]⟩=pure (ps.zip us)):Binds K fd ps []:=fun s us _ hl=>by
 rw [List.append_nil] at hl ⊢
 exact .of_eq (h us hl)
def zB (CX:CXT) (X:Cx) (E:XK):Prop:=∀ (pins:List (Addr×Obj)) (σ:St) (H:Hp) (s:Shared) (e:Value) (s':Shared),Inv X pins σ H s→CX X.stack H s E e s'→X.xe e s'
section
variable {X:Cx} {CX:CXT} {k:Nat} {f C:Addr} {fd:FuncData} {ps:List Str} {sp:Sp} {dvs:List V} {ds:List Value} {E:XK} {x m:Str} {p pos apos:Pos} {e o:Expr} {es:List Expr} {ta:TE} {t:TA}
theorem qcP {pins:List (Addr×Obj)} {σ:St} {H:Hp} {s:Shared} {Q:VK} {us:List Value} {vs:List V} (F:FnOk X.prog X.w X.K X.mg X.base CX k f fd ps sp) (hr:Room k X.A) (hb:Binds X.K fd ps ds) (hd:Vals dvs ds) (hx:zB CX X E)
  (I:Inv X pins σ H s) (r:Vals vs us) (h:sp (vs++dvs) H Q E):wpAny (model X.prog X.w) X.A (call (.ref f) us) (EP X pins σ Q) X.xe s:=by
 have r2:Vals (vs++dvs) (us++ds):=r.append hd
 have hl:(us++ds).length=ps.length:=by rw [← r2.length];exact F.len _ _ _ _ h
 refine wpAny_call (codeAny_mono (F.run X.A X.stack s H ⟨us,[]⟩ (us++ds) (vs++dvs) Q E hr I.env0 (hb s us I.kIn hl) r2 h) fun r s' hq=>?_)
 cases r with
 | error e=>exact hx pins σ H s e s' I hq
 | ok fl =>
  cases fl with
  | ret u=>exact I.after hq
  | next=>exact False.elim hq
  | brk=>exact False.elim hq
  | cont=>exact False.elim hq
theorem pe_call (F:FnOk X.prog X.w X.K X.mg X.base CX k f fd ps sp) (hr:Room k X.A) (hg:Gl X x) (hm:X.mg x=some (.ref f)) (hk:PySem.W.keepIn X.K (.ref f)=true) (hb:Binds X.K fd ps ds) (hd:Vals dvs ds) (hx:zB CX X E)
  (ha:PA X (e::es) t) (hdb:(x==("__debug__":Str))=false:=by decide) (he:starEach (e::es) X.env=(false,eval e X.env)::starEach es X.env:=by rfl) (hpl:(backTo pos (starEach es X.env)).any (·.1)=false:=by rfl) :
  PE X (.Call (.Name x p) (e::es) [] pos) (qdB sp dvs E t):=by
 intro pins s σ H Q I h
 refine wpAny_Call_Name_kw (zl I hg hm ?_ hdb)
 refine PySem.W.callWith_K (h₀:=X.base) I.ok.mod.kin hk (thn (ha pos pins s σ H _ I h) fun us s1 ⟨vs,H1,I1,r,q⟩=>⟨I1.kIn,?_⟩) he hpl
 exact qcP F hr hb hd hx I1 r q
theorem pe_meth {pl:Sem Bool} (he:PE X o ta) (c:Cls X.K C) (hm:Meth X.K C m f) (F:FnOk X.prog X.w X.K X.mg X.base CX k f fd ps sp) (hr:Room k X.A) (hb:Binds X.K fd ps ds) (hd:Vals dvs ds) (hx:zB CX X E) (ha:PA X (e::es) t)
  (hst:starEach (e::es) X.env=(false,eval e X.env)::starEach es X.env:=by rfl) (hpl:(backTo pos (starEach es X.env)).any (·.1)=false:=by rfl)
  (ht:eval (.Call (.Attribute o m apos) (e::es) [] pos) X.env=(do
   let ov ← eval o X.env
   standAt apos.atName
   let (f,first) ← holding [ov] (getMethod ov m pl)
   callWith pos f first (backTo pos (starEach (e::es) X.env)) (backToKw pos (keywordEach [] X.env))):=by rfl) :
  PE X (.Call (.Attribute o m apos) (e::es) [] pos) (qdC C m sp dvs E ta t):=by
 intro pins s σ H Q I h
 refine PySem.W.methodCall_KW (pl:=pl) (thn (he pins s σ H _ I h) fun u s1 ⟨x,H1,I1,rx,a,dx,fs,ex,ea,l,q⟩=>?_) ht
 subst ex
 obtain rfl:u=Value.ref a:=rx
 refine qat I1 ea c hm l ?_
 refine PySem.W.callWith_K (first:=[.ref a]) (h₀:=X.base) I.ok.mod.kin hm.kp (thn (ha pos pins s1 σ H1 _ I1 q) fun us s2 ⟨vs,H2,I2,r,q2⟩=>⟨I2.kIn,?_⟩) hst hpl
 exact qcP (us:=.ref a::us) (vs:=.ref a::vs) F hr hb hd hx I2 (.cons rfl r) q2
theorem pe_meth0 {pl:Sem Bool} (he:PE X o ta) (c:Cls X.K C) (hm:Meth X.K C m f) (F:FnOk X.prog X.w X.K X.mg X.base CX k f fd ps sp) (hr:Room k X.A) (hb:Binds X.K fd ps ds) (hd:Vals dvs ds) (hx:zB CX X E)
  (ht:eval (.Call (.Attribute o m apos) [] [] pos) X.env=(do
   let ov ← eval o X.env
   standAt apos.atName
   let (f,first) ← holding [ov] (getMethod ov m pl)
   callWith pos f first (backTo pos (starEach [] X.env)) (backToKw pos (keywordEach [] X.env))):=by rfl) :
  PE X (.Call (.Attribute o m apos) [] [] pos) (qdC C m sp dvs E ta qfO):=by
 intro pins s σ H Q I h
 refine PySem.W.methodCall_KW (pl:=pl) (thn (he pins s σ H _ I h) fun u s1 ⟨x,H1,I1,rx,a,dx,fs,ex,ea,l,q⟩=>?_) ht
 subst ex
 obtain rfl:u=Value.ref a:=rx
 refine qat I1 ea c hm l ?_
 exact PySem.W.callWith_K0 (first:=[.ref a]) I1.kIn hm.kp (qcP (us:=[.ref a]) (vs:=[.ref a]) F hr hb hd hx I1 (.cons rfl .nil) q)
structure Mk (K:PySem.W.Frag) (C f:Addr):Prop where
 makes:PySem.W.makesIn K C=true
 init:PySem.W.findIn K (.ref C) "__init__"=some (some (.ref f))
 fn:PySem.W.isFn K (.ref f)=true
 kp:PySem.W.keepIn K (.ref C)=true
theorem run_make {pins:List (Addr×Obj)} {σ:St} {H:Hp} {s:Shared} {Q:VK} {us:List Value} {vs:List V} (M:Mk X.K C f) (F:FnOk X.prog X.w X.K X.mg X.base CX k f fd ps sp) (hr:Room (k + 1) X.A) (hb:Binds X.K fd ps ds) (hd:Vals dvs ds)
  (hx:zB CX X E) (I:Inv X pins σ H s) (r:Vals vs us)
  (h:∀ x dx,H x=none→H dx=none→dx≠x→sp (.ref x::(vs++dvs)) (upd (upd H dx (.own x)) x (.ins C dx [])) (fun v H2=>v=.non∧Q (.ref x) H2) E) :
  wpAny (model X.prog X.w) X.A (call (.ref C) us) (EP X pins σ Q) X.xe s:=by
 have hq:=h (s.heap.objs.size + 1) s.heap.objs.size (I.hok.fresh (Nat.le_succ _)) (I.hok.fresh (Nat.le_refl _)) (Nat.ne_of_lt (Nat.lt_succ_self _))
 have I2:=Inv.made (C:=C) I
 have r2:Vals (V.ref (s.heap.objs.size + 1)::(vs++dvs)) (Value.ref (s.heap.objs.size + 1)::(us++ds)):=.cons rfl (r.append hd)
 have hl:(Value.ref (s.heap.objs.size + 1)::us++ds).length=ps.length:=by
  have e:=r2.length
  rw [F.len _ _ _ _ hq] at e
  exact e.symm
 refine wpAny_call (qcO (f:=f) I.kIn M.makes M.init (beq_iff_eq.mp M.fn) (codeAny_mono (F.run _ X.stack _ _ ⟨Value.ref (s.heap.objs.size + 1)::us,[]⟩ (Value.ref (s.heap.objs.size + 1)::(us++ds)) _ _ E (hr.make C us [])
  (I2.env0.make C us []) (hb _ (Value.ref (s.heap.objs.size + 1)::us) I2.kIn hl) r2 hq) fun r s' hq'=>?_))
 cases r with
 | error e=>exact hx pins σ _ _ e s' I2 hq'
 | ok fl =>
  cases fl with
  | ret u =>
   obtain ⟨v,H',I3,rv,ev,q3⟩:=I2.after hq'
   subst ev
   exact ⟨rv,⟨V.ref (s.heap.objs.size + 1),H',I3,rfl,q3⟩⟩
  | next=>exact False.elim hq'
  | brk=>exact False.elim hq'
  | cont=>exact False.elim hq'
theorem pe_make (M:Mk X.K C f) (F:FnOk X.prog X.w X.K X.mg X.base CX k f fd ps sp) (hr:Room (k + 1) X.A) (hg:Gl X x) (hm:X.mg x=some (.ref C)) (hb:Binds X.K fd ps ds) (hd:Vals dvs ds) (hx:zB CX X E)
  (ha:PA X (e::es) t) (hdb:(x==("__debug__":Str))=false:=by decide) (he:starEach (e::es) X.env=(false,eval e X.env)::starEach es X.env:=by rfl) (hpl:(backTo pos (starEach es X.env)).any (·.1)=false:=by rfl) :
  PE X (.Call (.Name x p) (e::es) [] pos) (qeV C sp dvs E t):=by
 intro pins s σ H Q I h
 refine wpAny_Call_Name_kw (zl I hg hm ?_ hdb)
 refine PySem.W.callWith_K (h₀:=X.base) I.ok.mod.kin M.kp (thn (ha pos pins s σ H _ I h) fun us s1 ⟨vs,H1,I1,r,q⟩=>⟨I1.kIn,?_⟩) he hpl
 exact run_make M F hr hb hd hx I1 r q
end
section
variable {X:Cx} {CX:CXT} {k:Nat} {f C:Addr} {fd:FuncData} {ps ks:List Str} {sp:Sp} {E:XK} {x m:Str} {p pos apos kpos:Pos} {e o:Expr} {es:List Expr} {kws:List Keyword} {te ta:TE} {t tk:TA} {nm:Option Str}
structure KBinds (K:PySem.W.Frag) (fd:FuncData) (ps ks:List Str) (g:List Value→List Value→List Value) (gV:List V→List V→List V):Prop where
 to:∀ (s:Shared) (us ws:List Value),K.In s.heap→(g us ws).length=ps.length→BindsTo s fd ⟨us,ks.zip ws⟩ (ps.zip (g us ws))
 rel:∀ {vs:List V} {us:List Value} {zs:List V} {ws:List Value},Vals vs us→Vals zs ws→Vals (gV vs zs) (g us ws)
variable {g:List Value→List Value→List Value} {gV:List V→List V→List V}
end
structure FnScope (N P:List Str) (sc:Scope):Prop where
 kind:sc.kind=.function
 co:sc.isCoroutine=false
 gen:sc.isGenerator=false
 nd:N.Nodup
 pre:N.take P.length=P
 par:∀ x∈P,sc.names.lookup x=some .local∨sc.names.lookup x=some .cell
 nofree:∀ y∈sc.names,y.2≠.free
theorem qbK {kindOf:Str→Option NameKind} {x:Str}:∀ {binds:List (Str×Value)} {m:Str→Option Value},(∀ v,(x,v)∉binds)→bindL kindOf binds m x=m x
 | [],_,_=>rfl
 | (n,v)::r,m,h=>by
  unfold bindL
  rw [qbK fun w hw=>h w (List.mem_cons_of_mem _ hw)]
  split
  ·have:x≠n:=by rintro rfl;exact h v List.mem_cons_self
   simp [this]
  ·rfl
theorem qbL {kindOf:Str→Option NameKind} {x:Str}:∀ {binds:List (Str×Value)} {m:Str→Option Value},(∀ v,(x,v)∉binds)→bindC kindOf binds m x=m x
 | [],_,_=>rfl
 | (n,v)::r,m,h=>by
  unfold bindC
  rw [qbL fun w hw=>h w (List.mem_cons_of_mem _ hw)]
  split
  ·rfl
  ·have:x≠n:=by rintro rfl;exact h v List.mem_cons_self
   simp [this]
theorem qbM {kindOf:Str→Option NameKind} {x:Str} {v:Value}:∀ {P:List Str} {vs:List Value} {i:Nat} {m:Str→Option Value},P.Nodup→P[i]?=some x→vs[i]?=some v→kindOf x=some .local →
  bindL kindOf (P.zip vs) m x=some v
 | [],_,_,_,_,h,_,_=>by simp at h
 | _::_,[],_,_,_,_,h,_=>by simp at h
 | p::P,w::vs,0,m,nd,h1,h2,hk=>by
  simp at h1 h2;subst h1;subst h2
  show bindL kindOf ((p,w)::P.zip vs) m p=_
  unfold bindL
  rw [qbK fun v hv=>(List.nodup_cons.mp nd).1 (List.of_mem_zip hv).1,if_pos hk]
  simp
 | p::P,w::vs,i + 1,m,nd,h1,h2,hk=>by
  show bindL kindOf ((p,w)::P.zip vs) m x=_
  unfold bindL
  exact qbM (i:=i) (List.nodup_cons.mp nd).2 (by simpa using h1) (by simpa using h2) hk
theorem qbN {kindOf:Str→Option NameKind} {x:Str} {v:Value}:∀ {P:List Str} {vs:List Value} {i:Nat} {m:Str→Option Value},P.Nodup→P[i]?=some x→vs[i]?=some v→kindOf x≠some .local →
  bindC kindOf (P.zip vs) m x=some v
 | [],_,_,_,_,h,_,_=>by simp at h
 | _::_,[],_,_,_,_,h,_=>by simp at h
 | p::P,w::vs,0,m,nd,h1,h2,hk=>by
  simp at h1 h2;subst h1;subst h2
  show bindC kindOf ((p,w)::P.zip vs) m p=_
  unfold bindC
  rw [qbL fun v hv=>(List.nodup_cons.mp nd).1 (List.of_mem_zip hv).1,if_neg hk]
  simp
 | p::P,w::vs,i + 1,m,nd,h1,h2,hk=>by
  show bindC kindOf ((p,w)::P.zip vs) m x=_
  unfold bindC
  exact qbN (i:=i) (List.nodup_cons.mp nd).2 (by simpa using h1) (by simpa using h2) hk
def start (N:List Str) (vs:List V):St:=vs.map some++List.replicate (N.length - vs.length) none
def qeo (CX:CXT) (P:Program) (w:World) (K:PySem.W.Frag) (mg:Str→Option Value) (base:Heap) (N:List Str) (qual:Str) (scope:Scope) (f:Addr) (cd:Value) (A:Around) (outer:List Env) (s:Shared) (H:Hp) (E:XK):Cx where
 prog:=P
 w:=w
 K:=K
 mg:=mg
 base:=base
 A:=A.deeper (envOfC qual scope s.heap.objs.size f cd)
 N:=N
 s₀:=s
 H₀:=H
 env:=envOfC qual scope s.heap.objs.size f cd
 outer:=outer
 stack:=envOfC qual scope s.heap.objs.size f cd::outer
 ex:=[]
 calm:=true
 fn:=fun _=>true
 pn:=[]
 xe:=fun e s'=>wpAny (model P w) (A.deeper (envOfC qual scope s.heap.objs.size f cd)) (leaving (envOfC qual scope s.heap.objs.size f cd) e) (fun _ s''=>CX outer H s E e s'') (fun e' s''=>CX outer H s E e' s'') s'
theorem qcQ {sc:Scope} {n:Nat} {x:Str} (h:sc.names.lookup x=some .cell):∃ c,(cellsFrom n sc.names []).lookup x=some c:=by
 have q:=PySem.W.cellsFrom_some sc.names n [] (.inl h)
 exact Option.isSome_iff_exists.mp q
theorem inv_start {CX:CXT} {P:Program} {w:World} {K:PySem.W.Frag} {mg:Str→Option Value} {base:Heap} {N ps:List Str} {qual:Str} {scope:Scope} {f:Addr} {cd:Value} {A:Around} {outer:List Env} {s s1:Shared} {H:Hp} {E:XK} {us:List Value} {vs:List V}
  (S:FnScope N ps scope) (hd:A.handled=none) (e0:Env0 P w K mg base A outer s H) (hl:vs.length=ps.length) (r:Vals vs us)
  (x:InCallC s s.heap.objs.size (bindL (envOfC qual scope s.heap.objs.size f cd).kindOf (ps.zip us) fun _=>none) (cellsFrom (s.heap.objs.size + 1) scope.names []) (bindC (envOfC qual scope s.heap.objs.size f cd).kindOf (ps.zip us) fun _=>none) s1) :
  Inv (qeo CX P w K mg base N qual scope f cd A outer s H E) [] (start N vs) H s1:=by
 have hpl:ps.length≤N.length:=by have:=congrArg List.length S.pre;rw [List.length_take] at this;omega
 obtain ⟨h1,tk,rfl,hk⟩:=x.done
 have noA:∀ b:Addr,b∉(qeo CX P w K mg base N qual scope f cd A outer s H E).ex:=fun b z=>absurd (show b∈([]:List Addr) from z) (by simp)
 refine ⟨⟨e0.mod,S.kind,rfl,rfl,Nat.le_refl _,fun y z c h1 h2=>?_,fun y hy=>?_,fun y c _ h=>?_,fun _=>hd,Around.frames_deeper e0.frames,.inr ⟨rfl,rfl⟩,fun b z=>absurd z (noA b),e0.bs,e0.bsz,fun b _ _=>noA b,fun b z=>absurd z (noA b),e0.funs,e0.frf⟩,
  rfl,e0.bare,Un.kept hk,⟨_,x.toInCall.ns,fun i y v h1 h2 h3=>?_⟩,fun y c h=>⟨_,x.cell y c h⟩,e0.hok.fresh (Nat.le_refl _),fun y c h=>?_,fun p hp=>absurd (show p∈([]:List (Addr×Obj)) from hp) (by simp),e0.hok.kept hk,?_⟩
 ·exact name_of_addr x.apart (PySem.mem_of_lookup h1) (PySem.mem_of_lookup h2)
 ·have hy:scope.names.lookup y=some .cell∨scope.names.lookup y=some .free:=hy
  rcases hy with hy | hy
  ·exact qcQ hy
  ·exact absurd rfl (S.nofree _ (PySem.mem_of_lookup hy))
 ·exact Nat.le_of_lt (x.above y c (PySem.mem_of_lookup h))
 ·have hi:i < vs.length:=by
   unfold start at h2
   by_cases hi:i < vs.length
   ·exact hi
   ·rw [List.getElem?_append_right (by simpa using hi)] at h2
    rw [List.getElem?_replicate] at h2
    split at h2<;>cases h2
  have ha:vs[i]?=some v:=by
   unfold start at h2
   rw [List.getElem?_append_left (by simpa using hi),List.getElem?_map] at h2
   cases e:vs[i]? with
   | none=>rw [e] at h2;cases h2
   | some a=>rw [e] at h2;cases h2;rfl
  obtain ⟨u,hu,rv⟩:=r.get ha
  have hp:ps[i]?=some y:=by
   rw [← S.pre,List.getElem?_take_of_lt (by omega)];exact h1
  have ndP:ps.Nodup:=by rw [← S.pre];exact S.nd.sublist (List.take_sublist _ _)
  refine ⟨u,rv,?_⟩
  rcases S.par y (List.mem_of_getElem? hp) with k | k
  ·exact .inl ⟨k,qbM ndP hp hu k⟩
  ·obtain ⟨c,e⟩:=qcQ (n:=s.heap.objs.size + 1) k
   refine .inr ⟨.inl k,c,e,?_⟩
   have q:=x.cell y c e
   rw [qbN ndP hp hu (by show scope.names.lookup y≠_;rw [k];decide)] at q
   exact q
 ·exact e0.hok.fresh (Nat.le_of_lt (x.above y c (PySem.mem_of_lookup h)))
 ·unfold start
  show _=N.length
  rw [List.length_append,List.length_map,List.length_replicate]
  omega
theorem qfk {CX:CXT} {P:Program} {w:World} {K:PySem.W.Frag} {mg:Str→Option Value} {base:Heap} {k:Nat} {f:Addr} {name qual:Str} {params:Arguments} {body:List Stmt} {scope:Scope} {dV kV doc pm cdv ct oc:Value} {an od:Option Addr}
  {osl:Array (Option Value)} {N ps:List Str} {sp:Sp} (lk:K.lookup f=some ⟨oc,od,.func (PySem.W.fnOf name qual params body scope dV kV doc pm an cdv ct),osl⟩) (hcd:PySem.W.codeIn K cdv qual=true) (S:FnScope N ps scope)
  (len:∀ vs H Q E,sp vs H Q E→vs.length=ps.length)
  (hbody:∀ (A:Around) (outer:List Env) (s:Shared) (H:Hp) (vs:List V) (Q:VK) (E:XK),Room k (A.deeper (envOfC qual scope s.heap.objs.size f cdv))→sp vs H Q E →
   ∃ t,PSs (qeo CX P w K mg base N qual scope f cdv A outer s H E) body t∧t { nx:=fun _ H'=>Q .non H',rt:=Q } (start N vs) H) :
  FnOk P w K mg base CX (k + 1) f (PySem.W.fnOf name qual params body scope dV kV doc pm an cdv ct) ps sp:=by
 refine ⟨len,fun A outer s H args us vs Q E hr e0 hb r hsp=>?_⟩
 have hl:=len _ _ _ _ hsp
 have KX:K.In s.heap:=e0.mod.kin.keeps fun b o e=>(e0.bs b o e).1
 have lim:s.heap.NoLimit:=e0.mod.nolimit.keeps fun b o e=>(e0.bs b o e).1
 have hkind:∀ y∈ps.zip us,scope.names.lookup y.1=some .local∨(scope.names.lookup y.1=some .cell∧((cellsFrom (s.heap.objs.size + 1) scope.names []).lookup y.1).isSome=true):=fun ⟨n,v⟩ hy=>by
  rcases S.par n (List.of_mem_zip hy).1 with q | q
  ·exact .inl q
  ·exact .inr ⟨q,PySem.W.cellsFrom_some _ _ _ (.inl q)⟩
 refine codeAny_call_function hr.depth (KX _ _ lk) rfl S.co S.gen rfl (PySem.W.codeRec_of KX hcd) (hb _ _ _ _ ?_)
 refine wpAny_newFunctionEnv_cells S.kind hkind fun env he s1 x=>?_
 subst he
 refine ⟨lim.keeps x.toInCall.keep,codeAny_func ?_⟩
 obtain ⟨t,ht,hq⟩:=hbody A outer s H vs Q E (hr.deeper _) hsp
 have I:Inv (qeo CX P w K mg base N qual scope f cdv A outer s H E) [] (start N vs) H s1:=inv_start S hr.hd e0 hl r x
 refine wpAny_mono (ht [] s1 (start N vs) H _ I hq) (fun fl s' hs=>?_) fun e s' hs=>hs
 have fin:∀ {σ':St} {H':Hp} {v:V} {u:Value},Inv (qeo CX P w K mg base N qual scope f cdv A outer s H E) [] σ' H' s'→RelV v u→Q v H'→CE outer P w H s Q u s':=
  fun {σ' H' v u} J rv q=>⟨v,H',J.os,J.bare,J.base,J.hok,rv,q⟩
 cases fl with
 | ret u =>
  obtain ⟨v,σ',H',J,rv,q⟩:=hs
  exact fin J rv q
 | next =>
  obtain ⟨σ',H',J,q⟩:=hs
  exact fin (v:=V.non) (u:=Value.none) J rfl q
 | brk =>
  obtain ⟨_,_,_,q⟩:=hs
  exact False.elim q
 | cont =>
  obtain ⟨_,_,_,q⟩:=hs
  exact False.elim q
end L2
namespace L2
open PySem PySem.Spec PyProof.Rows
section
variable {X:Cx} {x:Str} {p pos:Pos} {e:Expr} {es:List Expr} {t:TA} {id T:String} {r:List V→Hp→VK→Prop}
def tCB (r:List V→Hp→VK→Prop) (t:TA):TE:=fun σ H Q=>t σ H fun vs H1=>r vs H1 Q
theorem qk (hc:zm X (.builtin id) r) (hg:Gl X x) (hm:X.mg x=none) (hv:bootBuiltins x=some (.builtin id)) (ha:PA X (e::es) t) (hn:x≠"__name__":=by decide) (hdb:(x==("__debug__":Str))=false:=by decide)
  (he:starEach (e::es) X.env=(false,eval e X.env)::starEach es X.env:=by rfl) (hpl:(backTo pos (starEach es X.env)).any (·.1)=false:=by rfl):PE X (.Call (.Name x p) (e::es) [] pos) (tCB r t):=by
 intro pins s σ H Q I h
 refine wpAny_Call_Name_kw (qaT I hg hm hv ?_ hn hdb)
 exact PyProof.Rows.callWith_builtin1 (thn (ha pos pins s σ H _ I h) fun us s1 ⟨vs,H1,I1,r1,q1⟩=>hc pins s1 σ H1 vs us Q I1 r1 q1) he hpl
theorem zC (hc:zm X (.type T) r) (hg:Gl X x) (hm:X.mg x=none) (hv:bootBuiltins x=some (.type T)) (ha:PA X (e::es) t) (hn:x≠"__name__":=by decide) (hdb:(x==("__debug__":Str))=false:=by decide)
  (he:starEach (e::es) X.env=(false,eval e X.env)::starEach es X.env:=by rfl) (hpl:(backTo pos (starEach es X.env)).any (·.1)=false:=by rfl):PE X (.Call (.Name x p) (e::es) [] pos) (tCB r t):=by
 intro pins s σ H Q I h
 refine wpAny_Call_Name_kw (qaT I hg hm hv ?_ hn hdb)
 exact PyProof.Rows.callWith_type1 (thn (ha pos pins s σ H _ I h) fun us s1 ⟨vs,H1,I1,r1,q1⟩=>hc pins s1 σ H1 vs us Q I1 r1 q1) he hpl
end
end L2
namespace HT
open PySem PyProof.Rows
section
open PySem.SeqAt
open PySem.AutoSeq1 (wpAny_loadPart')
open PySem.MeetsSeq PySem.MeetsSeq2 PySem.MeetsSeq3
end
section
variable {prog:Program} {w:World} {A:Around} {E:Value→Shared→Prop} {s:Shared}
theorem cat_tup {t b:Addr} {vs ws:List Value} {Q:Value→Shared→Prop} (ht:IsTup s.heap t vs.toArray) (hb:IsTup s.heap b ws.toArray) (hv:vs≠[])
  (h1:ws=[]→Q (.ref t) s) (h2:ws≠[]→Q (.ref s.heap.objs.size) { s with heap:=s.heap.push { cls:=.type "tuple",data:=.seq (vs++ws).toArray } })
  (hsz:vs.length + ws.length≤sizeLine):wpAny (model prog w) A (binaryOp .Add (.ref t) (.ref b)) Q E s:=by
 obtain ⟨⟨cls,dd,data,sl⟩,ho,hc,n,hd⟩:=id ht
 obtain ⟨⟨cls2,dd2,data2,sl2⟩,ho2,hc2,n2,hd2⟩:=id hb
 simp only at hc hd hc2 hd2
 subst hc hd hc2 hd2
 have e:vs.toArray++ws.toArray=(vs++ws).toArray:=by simp
 by_cases hw:ws=[]
 ·exact concat_meets ⟨_,ho,rfl⟩ ⟨_,ho2,rfl⟩ noFill_tuple_add seq_tuple_add PySem.F.slot_tuple_add PySem.F.entry_tuple_add (PySem.F.args_tuple_add_2 _ _)
   (tuple_addW1 t b vs.toArray ws.toArray n n2 dd dd2 sl sl2 (by simpa using hv) (by simp [hw])) ⟨ho,ho2,h1 hw⟩
 ·refine concat_meets ⟨_,ho,rfl⟩ ⟨_,ho2,rfl⟩ noFill_tuple_add seq_tuple_add PySem.F.slot_tuple_add PySem.F.entry_tuple_add (PySem.F.args_tuple_add_2 _ _)
   (tuple_addW2 t b vs.toArray ws.toArray n n2 dd dd2 sl sl2 (by simpa using hv) (by simpa using hw) (by rw [List.size_toArray,List.size_toArray];exact hsz)) ⟨ho,ho2,?_⟩
  rw [e]
  exact h2 hw
def sIx (n d:Nat):Option Int→Nat
 | none=>d
 | some v=>if v < 0 then (v + (n:Int)).toNat else min v.toNat n
theorem sIx_none (n d:Nat):sIx n d none=d:=rfl
theorem sIx_nat (n d k:Nat):sIx n d (some (k:Int))=min k n:=by
 show (if (k:Int) < 0 then ((k:Int) + (n:Int)).toNat else min (k:Int).toNat n)=min k n
 rw [if_neg (by omega),Int.toNat_natCast]
theorem sIx_le (n d:Nat) (hd:d≤n) (o:Option Int):sIx n d o≤n:=by
 cases o with
 | none=>exact hd
 | some v =>
  show (if v < 0 then (v + (n:Int)).toNat else min v.toNat n)≤n
  by_cases hv:v < 0
  ·rw [if_pos hv];omega
  ·rw [if_neg hv];exact Nat.min_le_right _ _
theorem qdD (v:Int) (n d:Nat):(if v < 0 then max (v + (n:Int)) 0 else min v (n:Int))=((sIx n d (some v):Nat):Int):=by
 show (if v < 0 then max (v + (n:Int)) 0 else min v (n:Int))=(((if v < 0 then (v + (n:Int)).toNat else min v.toNat n):Nat):Int)
 by_cases hv:v < 0
 ·simp only [if_pos hv];omega
 ·simp only [if_neg hv];omega
theorem adjust_gen (lo hi:Option Int) (n:Nat):Builtin.Slice.sliceAdjust lo hi 1 (n:Int)=(((sIx n 0 lo:Nat):Int),((sIx n n hi:Nat):Int)):=by
 have h1:¬ ((1:Int) < 0):=by omega
 unfold Builtin.Slice.sliceAdjust
 simp only [h1,if_false]
 refine Prod.ext ?_ ?_
 ·cases lo with
  | none=>rfl
  | some v=>exact qdD v n 0
 ·cases hi with
  | none=>rfl
  | some v=>exact qdD v n n
theorem places_gen (i j:Nat):Builtin.Slice.slicePlaces (i:Int) (j:Int) 1=j - i:=by
 unfold Builtin.Slice.slicePlaces
 have h1:(1:Int) > 0:=by omega
 simp only [h1,if_true,Int.ediv_one]
 split<;>omega
theorem qbi {v:Value} {o:Option Int} {Q:Option Int→Shared→Prop} (p:IsPart v o) (h:Q o s):wpAny (model prog w) A (Builtin.Slice.slicePartIndex v) Q E s:=by
 cases p with
 | none=>exact slicePart_none h
 | int i t=>exact slicePart_int h
theorem sliceApplied_gen {sl:Addr} {vl vu:Value} {lo hi:Option Int} {n:Nat} {Q:Int×Int×Nat→Shared→Prop} (hs:s.heap.IsSliceOf sl vl vu .none) (pl:IsPart vl lo) (pu:IsPart vu hi)
  (h:Q (((sIx n 0 lo:Nat):Int),1,sIx n n hi - sIx n 0 lo) s):wpAny (model prog w) A (Builtin.Slice.sliceApplied (.ref sl) (pure (n:Int))) Q E s:=by
 obtain ⟨os,hos,hcs,hds⟩:=id hs
 unfold Builtin.Slice.sliceApplied Builtin.Slice.sliceFields
 refine wpAny_bind (wpAny_bind (wpAny_field hos hds (x:=vl) rfl (wpAny_bind (wpAny_field hos hds (x:=vu) rfl (wpAny_bind (wpAny_field hos hds (x:=.none) rfl (wpAny_pure ?_)))))))
 refine wpAny_bind (slicePart_none ?_)
 show wpAny _ _ (if ((1:Int)==0)=true then _ else _) _ _ s
 rw [if_neg (by decide)]
 refine wpAny_bind (qbi pl (wpAny_bind (qbi pu (wpAny_bind (wpAny_pure ?_)))))
 show wpAny _ _ (match Builtin.Slice.sliceAdjust lo hi 1 (n:Int) with | (lo,hi)=>pure (lo,(1:Int),Builtin.Slice.slicePlaces lo hi 1)) _ _ s
 rw [adjust_gen lo hi n]
 show wpAny _ _ (pure (((sIx n 0 lo:Nat):Int),(1:Int),Builtin.Slice.slicePlaces ((sIx n 0 lo:Nat):Int) ((sIx n n hi:Nat):Int) 1)) _ _ s
 rw [places_gen]
 exact wpAny_pure h
theorem pick_gen (xs:Array Value) (i k:Nat):((List.range k).filterMap fun (m:Nat)=>xs[((i:Int) + (m:Int) * 1).toNat]?).toArray=((xs.toList.drop i).take k).toArray:=by
 have e:(fun (m:Nat)=>xs[((i:Int) + (m:Int) * 1).toNat]?)=fun m=>xs[i + m]?:=by
  funext m
  have:((i:Int) + (m:Int) * 1).toNat=i + m:=by omega
  rw [this]
 rw [e]
 have:=pick_run xs i k
 rw [List.filterMap_map] at this
 have e2:((fun x=>xs[x]?) ∘ fun x=>i + x)=fun m=>xs[i + m]?:=rfl
 rw [e2] at this
 rw [this]
theorem getItem_tuple_cut {t sl:Addr} {items:Array Value} {vl vu:Value} {lo hi:Option Int} {Q:Value→Shared→Prop} (ht:IsTup s.heap t items) (hs:s.heap.IsSliceOf sl vl vu .none) (pl:IsPart vl lo) (pu:IsPart vu hi)
  (hw:¬ (sIx items.size 0 lo=0∧sIx items.size items.size hi=items.size))
  (h:Q (.ref s.heap.objs.size) { s with heap:=s.heap.push { cls:=.type "tuple",data:=.seq ((items.toList.drop (sIx items.size 0 lo)).take (sIx items.size items.size hi - sIx items.size 0 lo)).toArray } })
  (hsz:items.size≤sizeLine):wpAny (model prog w) A (getItem (.ref t) (.ref sl)) Q E s:=by
 have htake:sizeOk (.seq ((items.toList.drop (sIx items.size 0 lo)).take (sIx items.size items.size hi - sIx items.size 0 lo)).toArray):=by
  show ((items.toList.drop (sIx items.size 0 lo)).take (sIx items.size items.size hi - sIx items.size 0 lo)).toArray.size≤sizeLine
  rw [List.size_toArray,List.length_take,List.length_drop,Array.length_toList]
  omega
 have hj:sIx items.size items.size hi≤items.size:=sIx_le _ _ (Nat.le_refl _) hi
 obtain ⟨os,hos,hcs,hds⟩:=id hs
 have hTs:s.TypeIs (.ref sl) "slice":=⟨os,hos,hcs⟩
 unfold getItem
 try with_reducible refine wpAny_holding ?_
 first | refine wpAny_bind (wpAny_pure ?_) | skip
 refine wpAny_bind (wpAny_sequenceKey ht.typeIs (by decide) ?_)
 refine wpAny_bind (wpAny_callSpecial?_slot (name:=Str.ofString "__getitem__") ht.typeIs PyProof.Rows.slot_tuple_getitem
  (wpAny_call_entry PyProof.Rows.slot_tuple_getitem ht.typeIs entry_tuple_getitem ?_ (args_tuple_getitem _ _)))
 show wpAny _ _ (Builtin.Tuple.tupleItemsOf (.ref t)>>=_) _ _ s
 refine wpAny_bind (tupleItemsOf_ ht ?_)
 refine wpAny_bind (wpAny_typeOf hTs ?_)
 rw [if_pos (by decide)]
 refine wpAny_bind (sliceApplied_gen hs pl pu ?_)
 have hno:¬ ((((sIx items.size 0 lo:Nat):Int)==0&&(1:Int)==1&&(sIx items.size items.size hi - sIx items.size 0 lo)==items.size)=true):=by
  intro q
  rw [Bool.and_eq_true,Bool.and_eq_true] at q
  have q1:((sIx items.size 0 lo:Nat):Int)=0:=eq_of_beq q.1.1
  have q2:sIx items.size items.size hi - sIx items.size 0 lo=items.size:=eq_of_beq q.2
  exact hw ⟨by omega,by omega⟩
 show wpAny _ _ (if (((sIx items.size 0 lo:Nat):Int)==0&&(1:Int)==1&&(sIx items.size items.size hi - sIx items.size 0 lo)==items.size)=true then _ else _) _ _ s
 rw [if_neg hno,pick_gen]
 first
  | exact wpAny_bind (m:=Builtin.Tuple.tupleExact _) (wpAny_newObj_type (wpAny_pure ⟨_,rfl,wpAny_pure h⟩) htake)
  | exact wpAny_bind (m:=Builtin.Tuple.tupleExact _) (wpAny_newObj_type (wpAny_bind (wpAny_pure (wpAny_pure ⟨_,rfl,wpAny_pure h⟩))) htake)
  | exact wpAny_bind (wpAny_bind (m:=Builtin.Tuple.tupleExact _) (wpAny_newObj_type (wpAny_pure (wpAny_pure ⟨_,rfl,wpAny_pure h⟩)) htake))
  | exact wpAny_bind (wpAny_bind (m:=Builtin.Tuple.tupleExact _) (wpAny_newObj_type (wpAny_pure ⟨_,rfl,wpAny_pure h⟩) htake))
end
end HT
namespace L2
open PySem PySem.Spec PyProof.Rows
abbrev TO:=St→Hp→(Option Int→Hp→Prop)→Prop
def PO (X:Cx) (e:Option Expr) (t:TO):Prop:=
 ∀ (pins:List (Addr×Obj)) (s:Shared) (σ:St) (H:Hp) (Q:Option Int→Hp→Prop),Inv X pins σ H s→t σ H Q →
  wpAny (model X.prog X.w) X.A (evalPart e X.env) (fun u s'=>∃ o H',Inv X pins σ H' s'∧IsPart u o∧Q o H') X.xe s
def qdE:TO:=fun _ H Q=>Q none H
def qfl (t:TE):TO:=fun σ H Q=>t σ H fun x H1=>∃ i,x=.int i∧Q (some i) H1
section
variable {X:Cx} {e:Expr} {te:TE} {lo hi:Option Expr} {tl th:TO} {pos p2:Pos}
theorem ze:PO X none qdE:=by
 intro pins s σ H Q I h
 rw [evalPart_none]
 exact wpAny_pure ⟨none,H,I,.none,h⟩
theorem j1 (h:PE X e te):PO X (some e) (qfl te):=by
 intro pins s σ H Q I hw
 rw [evalPart_some]
 refine thn (h pins s σ H _ I hw) fun u s1 ⟨x,H1,I1,r1,q1⟩=>?_
 obtain ⟨i,rfl,q⟩:=q1
 obtain ⟨t,rfl⟩:=r1
 exact ⟨some i,H1,I1,.int i t,q⟩
def SlR (X:Cx) (r:V→Option Int→Option Int→Hp→VK→Prop):Prop:=
 ∀ (pins:List (Addr×Obj)) (s:Shared) (σ:St) (H:Hp) (x:V) (v vl vu:Value) (lo hi:Option Int) (sl:Addr) (Q:VK),Inv X pins σ H s→RelV x v→s.heap.IsSliceOf sl vl vu .none→IsPart vl lo→IsPart vu hi→r x lo hi H Q →
  ∃ T id,typeLookup (.type T) "__getitem__"=pure (some (.builtin id))∧s.TypeIs v T∧wpAny (model X.prog X.w) X.A (getItem v (.ref sl)) (EP X pins σ Q) X.xe s
def tSl (r:V→Option Int→Option Int→Hp→VK→Prop) (te:TE) (tl th:TO):TE:=fun σ H Q=>te σ H fun x H1=>tl σ H1 fun l H2=>th σ H2 fun u H3=>r x l u H3 Q
theorem jG {r:V→Option Int→Option Int→Hp→VK→Prop} (hr:SlR X r) (he:PE X e te) (hl:PO X lo tl) (hu:PO X hi th):PE X (.Subscript e (.Slice lo hi none p2) pos) (tSl r te tl th):=by
 intro pins s σ H Q I h
 refine Subscript_ (thn (he pins s σ H _ I h) fun v s1 ⟨x,H1,I1,r1,q1⟩=>?_)
 refine wpAny_Slice (thn (hl pins s1 σ H1 _ I1 q1) fun vl s2 ⟨l,H2,I2,pl,q2⟩=>thn (hu pins s2 σ H2 _ I2 q2) fun vu s3 ⟨u,H3,I3,pu,q3⟩=>?_)
 rw [evalPart_none]
 refine wpAny_pure ?_
 have I4:Inv X pins σ H3 { s3 with heap:=s3.heap.push { cls:=.type "slice",data:=.fields #[vl,vu,.none] } }:=I3.kept (t':=s3.toks) fun b ob q=>Heap.get?_push_of_some _ q
 obtain ⟨T,id,hT,ht,hg⟩:=hr pins { s3 with heap:=s3.heap.push { cls:=.type "slice",data:=.fields #[vl,vu,.none] } } σ H3 x v vl vu l u s3.heap.objs.size Q I4 r1 (Heap.IsSliceOf.new ..) pl pu q3
 show wpAny (model X.prog X.w) X.A (subscriptTail e (.Slice lo hi none p2) v (.ref s3.heap.objs.size)) (EP X pins σ Q) X.xe { s3 with heap:=s3.heap.push { cls:=.type "slice",data:=.fields #[vl,vu,.none] } }
 exact tail_any (ops:=[.ref s3.heap.objs.size,v]) ht hT hg (by with_unfolding_all rfl)
def qcq (xs:List V) (lo hi:Option Int):List V:=(xs.drop (HT.sIx xs.length 0 lo)).take (HT.sIx xs.length xs.length hi - HT.sIx xs.length 0 lo)
theorem qaZ (xs:List V) (lo hi:Option Int):(qcq xs lo hi).length≤xs.length:=by
 unfold qcq
 rw [List.length_take,List.length_drop]
 omega
def qgi (K:PySem.W.Frag):V→Option Int→Option Int→Hp→VK→Prop:=fun x lo hi H Q=>∃ a xs,x=.ref a∧SqT K H a xs ∧
 ¬ (HT.sIx xs.length 0 lo=0∧HT.sIx xs.length xs.length hi=xs.length)∧∀ p,H p=none→Q (.ref p) (upd H p (.tup (qcq xs lo hi)))
theorem sl_tup:SlR X (qgi X.K):=by
 intro pins s σ H x v vl vu lo hi sl Q I rx hs pl pu h
 obtain ⟨a,xs,rfl,hx,hw,q⟩:=h
 cases rx
 obtain ⟨its,r,ht,hz⟩:=I.tuple hx
 have hlen:its.toArray.size=xs.length:=by rw [List.size_toArray];exact r.length.symm
 refine ⟨"tuple",_,PyProof.Rows.slot_tuple_getitem.lookup,ht.typeIs,?_⟩
 refine HT.getItem_tuple_cut ht hs pl pu (by rw [hlen];exact hw) ?_ (by rw [hlen];exact hz)
 rw [hlen]
 refine ⟨.ref s.heap.objs.size,_,I.laid (t':=s.toks) (o:=.tup (qcq xs lo hi)) (fun b ob q=>Heap.get?_push_of_some _ q) (Nat.le_refl _) ?_,rfl,q _ (I.hok.fresh (Nat.le_refl _))⟩
 exact ⟨Nat.le_trans (qaZ xs lo hi) hz,_,(r.drop (HT.sIx xs.length 0 lo)).take (HT.sIx xs.length xs.length hi - HT.sIx xs.length 0 lo),IsTup.new _ _⟩
def qfm (K:PySem.W.Frag):R2:=fun x y H Q=>∃ a b xs ys,x=.ref a∧y=.ref b∧SqT K H a xs∧SqT K H b ys∧xs≠[]∧xs.length + ys.length≤sizeLine ∧
 (ys=[]→Q (.ref a) H)∧(ys≠[]→∀ p,H p=none→Q (.ref p) (upd H p (.tup (xs++ys))))
theorem Vals.nil_iff {xs:List V} {us:List Value} (r:Vals xs us):us=[]↔xs=[]:=by
 cases r with
 | nil=>simp
 | cons _ _=>simp
theorem op_catT:OpR X (binaryOp .Add) (qfm X.K):=by
 intro pins s σ H x y v u Q I rx ry h
 obtain ⟨a,b,xs,ys,rfl,rfl,ha,hb,hx,hz,q1,q2⟩:=h
 cases rx
 cases ry
 obtain ⟨its,r1,p1,_⟩:=I.tuple ha
 obtain ⟨its2,r2,p2,_⟩:=I.tuple hb
 refine HT.cat_tup p1 p2 (fun z=>hx (r1.nil_iff.mp z)) (fun z=>⟨.ref a,H,I,rfl,q1 (r2.nil_iff.mp z)⟩) (fun z=>?_) (by rw [← r1.length,← r2.length];exact hz)
 refine ⟨.ref s.heap.objs.size,_,I.laid (t':=s.toks) (o:=.tup (xs++ys)) (fun b ob q=>Heap.get?_push_of_some _ q) (Nat.le_refl _) ?_,rfl,q2 (fun w=>z (r2.nil_iff.mpr w)) _ (I.hok.fresh (Nat.le_refl _))⟩
 exact ⟨by rw [List.length_append];exact hz,_,r1.append r2,IsTup.new _ _⟩
end
end L2
namespace L2
open PySem PySem.Spec PyProof.Rows
def ixN (n:Nat) (i:Int):Option Nat:=if 0≤i then (if i < n then some i.toNat else none) else if -(n:Int)≤i then some (i + n).toNat else none
def atI {α:Type} (xs:List α) (i:Int):Option α:=(ixN xs.length i).bind fun j=>xs[j]?
theorem qdF {n:Nat} {i:Int} {j:Nat} (h:ixN n i=some j):seqIndex? i n=some j∧j < n∧-(n:Int)≤i∧i < n:=by
 unfold ixN at h
 by_cases h0:0≤i
 ·rw [if_pos h0] at h
  by_cases h1:i < n
  ·rw [if_pos h1] at h
   have e:i.toNat=j:=Option.some.inj h
   exact ⟨by rw [seqIndex_of h0 h1,e],by omega,by omega,h1⟩
  ·rw [if_neg h1] at h;cases h
 ·rw [if_neg h0] at h
  by_cases h1:-(n:Int)≤i
  ·rw [if_pos h1] at h
   have e:(i + n).toNat=j:=Option.some.inj h
   exact ⟨by rw [seqIndex_neg (by omega) h1,e],by omega,h1,by omega⟩
  ·rw [if_neg h1] at h;cases h
theorem qcr {α:Type} {xs:List α} {i:Int} {v:α} (h:atI xs i=some v):∃ j,seqIndex? i xs.length=some j∧xs[j]?=some v∧j < xs.length∧-(xs.length:Int)≤i∧i < xs.length:=by
 unfold atI at h
 cases e:ixN xs.length i with
 | none=>rw [e] at h;cases h
 | some j =>
  rw [e] at h
  obtain ⟨h1,h2,h3,h4⟩:=qdF e
  exact ⟨j,h1,h,h2,h3,h4⟩
theorem qH {α:Type} {xs:List α} {j:Nat} {v:α} (h:xs[j]?=some v):atI xs (j:Int)=some v:=by
 have hj:j < xs.length:=(List.getElem?_eq_some_iff.mp h).1
 have e:ixN xs.length (j:Int)=some j:=by
  unfold ixN
  rw [if_pos (by omega),if_pos (by omega)];simp
 unfold atI;rw [e];exact h
def PlainIx (b:Expr):Prop:=∀ o i,subscripted b false o i=operate [o,i] (getItem o i)
def IxR (X:Cx) (r:R2):Prop:=
 ∀ (value slice:Expr) (pins:List (Addr×Obj)) (s:Shared) (σ:St) (H:Hp) (x y:V) (v u:Value) (Q:VK),Inv X pins σ H s→RelV x v→RelV y u→r x y H Q →
  subscripted slice false v u=operate [v,u] (getItem v u)→wpAny (model X.prog X.w) X.A (subscriptTail value slice v u) (EP X pins σ Q) X.xe s
def MtR (X:Cx) (id:String) (r:V→List V→Hp→VK→Prop):Prop:=
 ∀ (pins:List (Addr×Obj)) (s:Shared) (σ:St) (H:Hp) (x:V) (xs:List V) (v:Value) (us:List Value) (Q:VK),Inv X pins σ H s→RelV x v→Vals xs us→r x xs H Q →
  wpAny (model X.prog X.w) X.A (call (.builtin id) (v::us)) (EP X pins σ Q) X.xe s
section
variable {X:Cx} {a b:Expr} {ta tb:TE} {pos:Pos}
theorem IxR.or {r r':R2} (h:IxR X r) (h':IxR X r'):IxR X (fun x y H Q=>r x y H Q∨r' x y H Q):=by
 intro value slice pins s σ H x y v u Q I rx ry q hs
 rcases q with q | q
 ·exact h value slice pins s σ H x y v u Q I rx ry q hs
 ·exact h' value slice pins s σ H x y v u Q I rx ry q hs
theorem qD {r:R2} (hr:IxR X r) (ha:PE X a ta) (hb:PE X b tb) (hs:PlainIx b):PE X (.Subscript a b pos) (tOp r ta tb):=by
 intro pins s σ H Q I h
 exact Subscript_ (qfZ ha hb I h fun v u s2 x y H2 I2 rx ry q=>hr a b pins s2 σ H2 x y v u Q I2 rx ry q (hs _ _))
def qgj (K:PySem.W.Frag):R2:=fun x y H Q=>∃ p xs i v,x=.ref p∧y=.int i∧SqL K H p xs∧atI xs i=some v∧Q v H
def qgk (K:PySem.W.Frag):R2:=fun x y H Q=>∃ p xs i v,x=.ref p∧y=.int i∧SqT K H p xs∧atI xs i=some v∧Q v H
def qgl:R2:=fun x y H Q=>∃ z i c,x=.str z∧y=.int i∧z.length≤sizeLine∧atI z.cps.toList i=some c∧Q (.str ⟨#[c]⟩) H
theorem ix_list:IxR X (qgj X.K):=by
 intro value slice pins s σ H x y v u Q I rx ry h hs
 obtain ⟨p,xs,i,z,rfl,rfl,hq,he,q⟩:=h
 cases rx
 obtain ⟨t,rfl⟩:=ry
 obtain ⟨its,r,pl,hz⟩:=I.list hq
 obtain ⟨j,h1,h2,h3,h4,h5⟩:=qcr he
 obtain ⟨w,ew,rw'⟩:=r.get h2
 have hl:=r.length
 have hn:=qbh
 have fin:EP X pins σ Q w s:=⟨z,H,I,rw',q⟩
 by_cases h0:0≤i
 ·have hj:i.toNat=j:=by
   rw [seqIndex_of h0 h5] at h1
   exact Option.some.inj h1
  exact item_listR pl.isList h0 (by omega) (by rw [hj];simpa using ew) fin hs
 ·have hj:(i + (its.toArray.size:Int)).toNat=j:=by
   rw [seqIndex_neg (by omega) h4] at h1
   rw [List.size_toArray,← hl]
   exact Option.some.inj h1
  exact subscriptTail_builtinR (x:=w) pl.isList.typeIs slot_list_getitem.lookup
   (wpAny_getItem_list_neg (Q:=fun r s'=>r=w∧EP X pins σ Q r s') pl.isList (by omega) (by rw [List.size_toArray]<;>omega) (by omega) (by rw [hj];simpa using ew) ⟨rfl,fin⟩) hs
theorem ix_tup:IxR X (qgk X.K):=by
 intro value slice pins s σ H x y v u Q I rx ry h hs
 obtain ⟨p,xs,i,z,rfl,rfl,hq,he,q⟩:=h
 cases rx
 obtain ⟨t,rfl⟩:=ry
 obtain ⟨its,r,pl,hz⟩:=I.tuple hq
 obtain ⟨j,h1,h2,h3,h4,h5⟩:=qcr he
 obtain ⟨w,ew,rw'⟩:=r.get h2
 have hl:=r.length
 have hn:=qbh
 have fin:EP X pins σ Q w s:=⟨z,H,I,rw',q⟩
 exact subscriptTail_builtinR (x:=w) pl.typeIs slot_tuple_getitem.lookup
  (getItem_tuple (j:=j) (Q:=fun r s'=>r=w∧EP X pins σ Q r s') pl (by omega) (by omega) (by rw [List.size_toArray,← hl];exact h1) (by simpa using ew) ⟨rfl,fin⟩) hs
theorem ix_str:IxR X qgl:=by
 intro value slice pins s σ H x y v u Q I rx ry h hs
 obtain ⟨z,i,c,rfl,rfl,hz,he,q⟩:=h
 obtain ⟨t,rfl⟩:=rx
 obtain ⟨t',rfl⟩:=ry
 obtain ⟨j,h1,h2,h3,h4,h5⟩:=qcr he
 have hl:z.cps.toList.length=z.length:=by simp [Str.length]
 rw [hl] at h1 h4 h5
 have hn:=qbh
 exact tail_any (typeIs_str s z t) slot_str_getitem.lookup (getItem_str (c:=c) (by
  have e1:decide (i < -(2 ^ 63:Int))=false:=decide_eq_false (by omega)
  have e2:decide (i ≥ 2 ^ 63)=false:=decide_eq_false (by omega)
  rw [e1,e2,Bool.or_false]) (by rw [h1];simpa using h2) ⟨.str ⟨#[c]⟩,H,I.tok _,⟨_,rfl⟩,q⟩) hs
def rIx (K:PySem.W.Frag):R2:=fun x y H Q=>qgj K x y H Q∨qgk K x y H Q∨qgl x y H Q
theorem ix_seq:IxR X (rIx X.K):=ix_list.or (ix_tup.or ix_str)
theorem mapSeq_set (its:List Value) (n j:Nat) (u:Value):Obj.mapSeq (·.setIfInBounds j u) { cls:=.type "list",data:=.seq its.toArray n }={ cls:=.type "list",data:=.seq (its.set j u).toArray n }:=by
 simp [Obj.mapSeq]
theorem Inv.lst {pins:List (Addr×Obj)} {σ:St} {H:Hp} {s:Shared} {p:Addr} {xs:List V} (I:Inv X pins σ H s) (h:H p=some (.lst xs)) :
  ∃ (its:List Value) (n:Nat),Vals xs its∧s.heap.get? p=some { cls:=.type "list",data:=.seq its.toArray n }∧xs.length≤sizeLine:=by
 obtain ⟨z,its,n,r,e⟩:=I.hok p _ h
 exact ⟨its,n,r,e,z⟩
theorem Inv.lstUpd {pins:List (Addr×Obj)} {σ:St} {H:Hp} {s:Shared} {p:Addr} {xs ys:List V} {its its':List Value} {n n':Nat} {f:Obj→Obj} (I:Inv X pins σ H s) (h:H p=some (.lst xs))
  (ho:s.heap.get? p=some { cls:=.type "list",data:=.seq its.toArray n }) (hf:f { cls:=.type "list",data:=.seq its.toArray n }={ cls:=.type "list",data:=.seq its'.toArray n' }) (r:Vals ys its') (hz:ys.length≤sizeLine) (t:Nat) :
  Inv X pins σ (upd H p (.lst ys)) { s with heap:=s.heap.update p f,toks:=t }:=by
 have e:(s.heap.update p f).get? p=some { cls:=.type "list",data:=.seq its'.toArray n' }:=by
  rw [Heap.get?_update_self f ho (by rw [hf]<;>rfl),hf]
 refine I.write (x:=p) (e:=p) (by rw [h];trivial) (.inl rfl) (fun b u hb q=>(Heap.get?_update_other _ _ (Ne.symm hb)).trans q) ⟨_,e⟩ ?_
 exact ⟨hz,its',n',r,e⟩
def qeW:V→V→V→Hp→(Hp→Prop)→Prop:=fun o i v H Q=>∃ p xs k j,o=.ref p∧i=.int k∧H p=some (.lst xs)∧ixN xs.length k=some j∧Q (upd H p (.lst (xs.set j v)))
theorem set_list:qfY X qeW:=by
 intro pins s σ H o i v ov iv u Q I ro ri rv h
 obtain ⟨p,xs,k,j,rfl,rfl,hp,hj,q⟩:=h
 cases ro
 obtain ⟨t,rfl⟩:=ri
 obtain ⟨its,n,r,ho,hz⟩:=I.lst hp
 obtain ⟨h1,h2,h3,h4⟩:=qdF hj
 have hl:=r.length
 have hn:=qbh
 have I':Inv X pins σ (upd H p (.lst (xs.set j v))) { s with heap:=s.heap.update p (Obj.mapSeq (·.setIfInBounds j u)) }:=
  I.lstUpd hp ho (mapSeq_set its n j u) (r.set rv j) (by rw [List.length_set];exact hz) s.toks
 by_cases h0:0≤k
 ·have hk:k.toNat=j:=by
   rw [seqIndex_of h0 h4] at h1
   exact Option.some.inj h1
  exact PySem.W.ki_setAt ho h0 (by omega) (by rw [List.size_toArray,← hl];exact h4) (by rw [hk];exact ⟨_,I',q⟩)
 ·have hk:(k + (its.toArray.size:Int)).toNat=j:=by
   rw [seqIndex_neg (by omega) h3] at h1
   rw [List.size_toArray,← hl]
   exact Option.some.inj h1
  exact PySem.W.ki_setBack ho (by omega) (by rw [List.size_toArray,← hl];exact h3) (by omega) (by rw [hk];exact ⟨_,I',q⟩)
theorem slice_bounds (lo hi:Option Int) (n:Nat):(sliceBounds lo hi none n).1=((HT.sIx n 0 lo:Nat):Int)∧(sliceBounds lo hi none n).2.1=((HT.sIx n n hi:Nat):Int)∧(sliceBounds lo hi none n).2.2=1:=by
 refine ⟨?_,?_,rfl⟩
 ·cases lo with
  | none=>simp [sliceBounds,HT.sIx]
  | some i =>
   simp only [sliceBounds,HT.sIx,Option.getD_none,show (1:Int) > 0 by decide,if_true]
   by_cases h:i < 0
   ·simp only [h,if_true]<;>omega
   ·simp only [h,if_false]<;>omega
 ·cases hi with
  | none=>simp [sliceBounds,HT.sIx]
  | some i =>
   simp only [sliceBounds,HT.sIx,Option.getD_none,show (1:Int) > 0 by decide,if_true]
   by_cases h:i < 0
   ·simp only [h,if_true]<;>omega
   ·simp only [h,if_false]<;>omega
theorem qac (its:List Value) (lo hi:Option Int):slicePick its.toArray lo hi none=((its.drop (HT.sIx its.length 0 lo)).take (HT.sIx its.length its.length hi - HT.sIx its.length 0 lo)).toArray:=by
 obtain ⟨h1,h2,h3⟩:=slice_bounds lo hi its.toArray.size
 unfold slicePick
 rw [h1,h2,h3]
 simp only [sliceRange_one,pick_run,List.size_toArray]<;>rfl
def qgm (K:PySem.W.Frag):V→Option Int→Option Int→Hp→VK→Prop:=fun x lo hi H Q=>∃ a xs,x=.ref a∧SqL K H a xs∧∀ p,H p=none→Q (.ref p) (upd H p (.lst (qcq xs lo hi)))
theorem sl_list:SlR X (qgm X.K):=by
 intro pins s σ H x v vl vu lo hi sl Q I rx hs pl pu h
 obtain ⟨a,xs,rfl,hx,q⟩:=h
 cases rx
 obtain ⟨its,r,ht,hz⟩:=I.list hx
 have hlen:=r.length
 refine ⟨"list",_,slot_list_getitem.lookup,ht.isList.typeIs,?_⟩
 refine wpAny_getItem_list_slice ht.isList hs pl pu .none (by simp) ?_ (by rw [List.size_toArray]<;>omega)
 rw [qac,← hlen]
 refine ⟨.ref s.heap.objs.size,_,I.laid (t':=s.toks) (o:=.lst (qcq xs lo hi)) (fun b ob q=>Heap.get?_push_of_some _ q) (Nat.le_refl _) ?_,rfl,q _ (I.hok.fresh (Nat.le_refl _))⟩
 exact ⟨Nat.le_trans (qaZ xs lo hi) hz,_,0,(r.drop (HT.sIx xs.length 0 lo)).take (HT.sIx xs.length xs.length hi - HT.sIx xs.length 0 lo),Heap.get?_push_size _ rfl⟩
def zx:V→Bool
 | .non=>true
 | .bl _=>true
 | .int _=>true
 | .str _=>true
 | _=>false
def eqV:V→V→Bool
 | .non,.non=>true
 | .bl a,.bl b=>a==b
 | .bl a,.int b=>(if a then 1 else 0)==b
 | .int a,.bl b=>a==(if b then 1 else 0)
 | .int a,.int b=>a==b
 | .str a,.str b=>a==b
 | _,_=>false
theorem qdG {A:Around} {s:Shared} {y x:V} {u v:Value} (ry:RelV y u) (rx:RelV x v) (fy:zx y=true) (fx:zx x=true):SeqAt.EqAt A s u v (eqV y x):=by
 cases y with
 | non =>
  cases ry
  cases x with
  | non=>cases rx;exact SeqAt.EqAt.same _
  | bl b=>cases rx;exact SeqAt.EqAt.none_bool b
  | int b=>obtain ⟨t,rfl⟩:=rx;exact SeqAt.EqAt.none_int b t
  | str b=>obtain ⟨t,rfl⟩:=rx;exact SeqAt.EqAt.none_str b t
  | _=>exact absurd (show false=true from fx) Bool.false_ne_true
 | bl a =>
  cases ry
  cases x with
  | non=>cases rx;exact SeqAt.EqAt.bool_none a
  | bl b=>cases rx;exact SeqAt.EqAt.bool_bool a b
  | int b=>obtain ⟨t,rfl⟩:=rx;exact SeqAt.EqAt.bool_int a b t
  | str b=>obtain ⟨t,rfl⟩:=rx;exact SeqAt.EqAt.bool_str a b t
  | _=>exact absurd (show false=true from fx) Bool.false_ne_true
 | int a =>
  obtain ⟨t',rfl⟩:=ry
  cases x with
  | non=>cases rx;exact SeqAt.EqAt.int_none a t'
  | bl b=>cases rx;exact SeqAt.EqAt.int_bool a t' b
  | int b=>obtain ⟨t,rfl⟩:=rx;exact SeqAt.EqAt.int_int a t' b t
  | str b=>obtain ⟨t,rfl⟩:=rx;exact SeqAt.EqAt.int_str a t' b t
  | _=>exact absurd (show false=true from fx) Bool.false_ne_true
 | str a =>
  obtain ⟨t',rfl⟩:=ry
  cases x with
  | non=>cases rx;exact SeqAt.EqAt.str_none a t'
  | bl b=>cases rx;exact SeqAt.EqAt.str_bool a t' b
  | int b=>obtain ⟨t,rfl⟩:=rx;exact SeqAt.EqAt.str_int a t' b t
  | str b=>obtain ⟨t,rfl⟩:=rx;exact SeqAt.EqAt.str_str a t' b t
  | _=>exact absurd (show false=true from fx) Bool.false_ne_true
 | _=>exact absurd (show false=true from fy) Bool.false_ne_true
def eqU (x:V) (u:Value):Bool:=match u with
 | .none=>eqV .non x
 | .bool b=>eqV (.bl b) x
 | .int i _=>eqV (.int i) x
 | .str z _=>eqV (.str z) x
 | _=>false
theorem qep {x y:V} {u:Value} (r:RelV y u) (f:zx y=true):eqU x u=eqV y x:=by
 cases y with
 | non=>cases r;rfl
 | bl b=>cases r;rfl
 | int i=>obtain ⟨t,rfl⟩:=r;rfl
 | str z=>obtain ⟨t,rfl⟩:=r;rfl
 | _=>exact absurd (show false=true from f) Bool.false_ne_true
theorem qa0 {x:V}:∀ {xs:List V} {us:List Value},Vals xs us→xs.all zx=true→us.any (eqU x)=xs.any fun y=>eqV y x
 | _,_,.nil,_=>rfl
 | y::xs,u::us,.cons r t,f=>by
  rw [List.all_cons,Bool.and_eq_true] at f
  rw [List.any_cons,List.any_cons,qep r f.1,qa0 t f.2]
theorem qad {A:Around} {s:Shared} {x:V} {v:Value} (rx:RelV x v) (fx:zx x=true):∀ {xs:List V} {us:List Value},Vals xs us→xs.all zx=true→∀ u∈us,SeqAt.EqAt A s u v (eqU x u)
 | _,_,.nil,_=>fun u hu=>by cases hu
 | y::xs,u::us,.cons r t,f=>fun u' hu=>by
  rw [List.all_cons,Bool.and_eq_true] at f
  rcases List.mem_cons.mp hu with rfl | hu
  ·rw [qep r f.1];exact qdG r rx f.1 fx
  ·exact qad rx fx t f.2 u' hu
def inV (x:V) (xs:List V):Bool:=xs.any fun y=>eqV y x
def rIn (K:PySem.W.Frag) (neg:Bool):R2:=fun x y H Q=>∃ p xs,y=.ref p∧(SqL K H p xs∨SqT K H p xs)∧zx x=true∧xs.all zx=true∧Q (.bl (if neg then !inV x xs else inV x xs)) H
theorem op_in_seq:OpR X (compareOp .In) (rIn X.K false):=by
 intro pins s σ H x y v u Q I rx ry h
 obtain ⟨p,xs,rfl,hq,fx,fs,q⟩:=h
 cases ry
 rcases hq with hq | hq
 ·obtain ⟨its,r,pl,hz⟩:=I.list hq
  refine SeqAt.in_listAt (eqU x) pl.isList (fun w hw=>qad rx fx r fs w (by simpa using hw)) ⟨.bl _,H,I,rfl,?_⟩
  rw [show its.toArray.any (eqU x)=its.any (eqU x) by simp,qa0 r fs]
  exact q
 ·obtain ⟨its,r,pl,hz⟩:=I.tuple hq
  refine SeqAt.in_tupleAt (eqU x) pl (fun w hw=>qad rx fx r fs w (by simpa using hw)) ⟨.bl _,H,I,rfl,?_⟩
  rw [show its.toArray.any (eqU x)=its.any (eqU x) by simp,qa0 r fs]
  exact q
theorem op_notIn_seq:OpR X (compareOp .NotIn) (rIn X.K true):=by
 intro pins s σ H x y v u Q I rx ry h
 obtain ⟨p,xs,rfl,hq,fx,fs,q⟩:=h
 cases ry
 rcases hq with hq | hq
 ·obtain ⟨its,r,pl,hz⟩:=I.list hq
  refine SeqAt.notIn_listAt (eqU x) pl.isList (fun w hw=>qad rx fx r fs w (by simpa using hw)) ⟨.bl _,H,I,rfl,?_⟩
  rw [show its.toArray.any (eqU x)=its.any (eqU x) by simp,qa0 r fs]
  exact q
 ·obtain ⟨its,r,pl,hz⟩:=I.tuple hq
  refine SeqAt.notIn_tupleAt (eqU x) pl (fun w hw=>qad rx fx r fs w (by simpa using hw)) ⟨.bl _,H,I,rfl,?_⟩
  rw [show its.toArray.any (eqU x)=its.any (eqU x) by simp,qa0 r fs]
  exact q
theorem call_len_seq:zm X (.builtin "len") (fun xs H Q=>∃ p ys,xs=[.ref p]∧(SqL X.K H p ys∨SqT X.K H p ys)∧Q (.int ys.length) H):=by
 intro pins s σ H xs us Q I r h
 obtain ⟨p,ys,rfl,hq,q⟩:=h
 obtain ⟨u,rfl,rx⟩:=qaH r
 cases rx
 have hn:=qbh
 rcases hq with hq | hq
 ·obtain ⟨its,r',pl,hz⟩:=I.list hq
  have hlen:=r'.length
  exact Calls.call_len_list pl.isList (by simp only [List.size_toArray]<;>omega) ⟨.int ys.length,H,I.tok _,⟨s.toks + 1,by rw [List.size_toArray,hlen]⟩,q⟩
 ·obtain ⟨its,r',pl,hz⟩:=I.tuple hq
  have hlen:=r'.length
  exact len_tuple pl (by simp only [List.size_toArray]<;>omega) ⟨.int ys.length,H,I.tok _,⟨s.toks + 1,by rw [List.size_toArray,hlen]⟩,q⟩
theorem call_len_str:zm X (.builtin "len") (fun xs H Q=>∃ z,xs=[.str z]∧z.length≤sizeLine∧Q (.int z.length) H):=by
 intro pins s σ H xs us Q I r h
 obtain ⟨z,rfl,hz,q⟩:=h
 obtain ⟨u,rfl,t,rfl⟩:=qaH r
 have hn:=qbh
 exact len_str (by omega) ⟨.int z.length,H,I.tok _,⟨_,rfl⟩,q⟩
theorem call_list_of:zm X (.type "list") (fun xs H Q=>∃ p ys,xs=[.ref p]∧(SqL X.K H p ys∨SqT X.K H p ys)∧∀ l,H l=none→Q (.ref l) (upd H l (.lst ys))):=by
 intro pins s σ H xs us Q I r h
 obtain ⟨p,ys,rfl,hq,q⟩:=h
 obtain ⟨u,rfl,rx⟩:=qaH r
 cases rx
 have fin:∀ (its:List Value),Vals ys its→ys.length≤sizeLine→∀ (h':Heap) (c':Nat),(∀ b o',s.heap.get? b=some o'→h'.get? b=some o') →
   h'.get? s.heap.objs.size=some { cls:=.type "list",dict:=none,data:=.seq its.toArray c',slots:=#[] }→EP X pins σ Q (.ref s.heap.objs.size) { s with heap:=h' }:=fun its r' hz h' c' kp e =>
  ⟨.ref s.heap.objs.size,_,I.laid (t':=s.toks) kp (Nat.le_refl _) (show ObjOk X.prog X.w _ h' _ (.lst ys) from ⟨hz,its,c',r',e⟩),rfl,q _ (I.hok.fresh (Nat.le_refl _))⟩
 rcases hq with hq | hq
 ·obtain ⟨its,r',pl,hz⟩:=I.list hq
  have hlen:=r'.length
  obtain ⟨o,ho,hc,n,hd⟩:=pl.isList
  exact call_list_seq p (.inl rfl) ho hc hd (fun h' c' kp e=>fin its r' hz h' c' kp e) (by simp only [List.size_toArray]<;>omega)
 ·obtain ⟨its,r',pl,hz⟩:=I.tuple hq
  have hlen:=r'.length
  obtain ⟨o,ho,hc,n,hd⟩:=pl
  exact call_list_seq p (.inr rfl) ho hc hd (fun h' c' kp e=>fin its r' hz h' c' kp e) (by simp only [List.size_toArray]<;>omega)
theorem call_tuple_of:zm X (.type "tuple") (fun xs H Q=>∃ p ys,xs=[.ref p]∧((SqL X.K H p ys∧∀ l,H l=none→Q (.ref l) (upd H l (.tup ys)))∨(SqT X.K H p ys∧Q (.ref p) H))):=by
 intro pins s σ H xs us Q I r h
 obtain ⟨p,ys,rfl,h⟩:=h
 obtain ⟨u,rfl,rx⟩:=qaH r
 cases rx
 rcases h with ⟨hq,q⟩ | ⟨hq,q⟩
 ·obtain ⟨its,r',pl,hz⟩:=I.list hq
  have hlen:=r'.length
  refine call_tuple_list pl.isList (fun h' kp=>?_) (by simp only [List.size_toArray]<;>omega)
  have I1:Inv X pins σ H { s with heap:=h' }:=I.kept (t':=s.toks) kp
  have I2:Inv X pins σ (upd H h'.objs.size (.tup ys)) { s with heap:=h'.push { cls:=.type "tuple",data:=.seq its.toArray } }:=
   I1.laid (t':=s.toks) (fun b o e=>Heap.get?_push_of_some _ e) (Nat.le_refl _) (show ObjOk X.prog X.w _ _ _ (.tup ys) from ⟨hz,its,r',IsTup.new _ _⟩)
  exact ⟨.ref h'.objs.size,_,I2,rfl,q _ (I1.hok.fresh (Nat.le_refl _))⟩
 ·obtain ⟨its,r',pl,hz⟩:=I.tuple hq
  exact call_tuple_same pl ⟨.ref p,H,I,rfl,q⟩
def tyV (K:PySem.W.Frag) (T:String) (x:V) (H:Hp):Prop:=match x with
 | .str _=>T="str"
 | .int _=>T="int"
 | .ref p=>(T="list"∧∃ xs,SqL K H p xs)∨(T="tuple"∧∃ o,K.lookup p=some o∧o.cls=.type "tuple"∧o.dict=none) ∨
   (T="dict"∧((∃ kvs,H p=some (.dK kvs))∨∃ kvs,H p=some (.dT kvs)))∨(T="set"∧∃ S n,H p=some (.set S n))
 | _=>False
theorem qeq {pins:List (Addr×Obj)} {σ:St} {H:Hp} {s:Shared} {T:String} {x:V} {v:Value} (I:Inv X pins σ H s) (r:RelV x v) (ty:tyV X.K T x H) :
  s.TypeIs v T∧∀ a,v=.ref a→∃ ob,s.heap.get? a=some ob∧ob.dict=none:=by
 cases x with
 | str z =>
  obtain ⟨t,rfl⟩:=r
  cases (show T="str" from ty)
  exact ⟨typeIs_str s z t,fun _ e=>nomatch e⟩
 | int i =>
  obtain ⟨t,rfl⟩:=r
  cases (show T="int" from ty)
  exact ⟨typeIs_int s i t,fun _ e=>nomatch e⟩
 | ref p =>
  cases r
  rcases ty with ⟨rfl,xs,hq⟩ | ⟨rfl,o,hk,hc,hd⟩ | ⟨rfl,hk⟩ | ⟨rfl,S,n,hk⟩
  ·obtain ⟨its,_,pl,_⟩:=I.list hq
   refine ⟨pl.isList.typeIs,fun a e=>?_⟩
   cases e
   obtain ⟨o,n,e,c,hd,_⟩:=pl
   exact ⟨o,e,hd⟩
  ·refine ⟨⟨o,I.kIn p o hk,hc⟩,fun a e=>?_⟩
   cases e
   exact ⟨o,I.kIn _ o hk,hd⟩
  ·have z:∃ o,s.heap.get? p=some o∧o.ExactDict:=by
    rcases hk with ⟨kvs,hk⟩ | ⟨kvs,hk⟩
    ·obtain ⟨_,_,_,_,o,_,_,e,ex,_⟩:=I.hok p _ hk
     exact ⟨o,e,ex⟩
    ·obtain ⟨_,_,_,_,o,_,_,e,ex,_⟩:=I.hok p _ hk
     exact ⟨o,e,ex⟩
   obtain ⟨o,e,ex⟩:=z
   refine ⟨⟨o,e,ex.1⟩,fun a e2=>?_⟩
   cases e2
   exact ⟨o,e,ex.2.1⟩
  ·obtain ⟨o,_,_,_,e,ex,_⟩:=I.hok p _ hk
   refine ⟨⟨o,e,ex.1⟩,fun a e2=>?_⟩
   cases e2
   exact ⟨o,e,ex.2.1⟩
 | _=>exact False.elim ty
def qf1 (K:PySem.W.Frag) (T:String) (r:V→List V→Hp→VK→Prop) (to:TE):TE:=fun σ H Q=>to σ H fun x H1=>tyV K T x H1∧r x [] H1 Q
def tBM (K:PySem.W.Frag) (T:String) (r:V→List V→Hp→VK→Prop) (to:TE) (t:TA):TE:=fun σ H Q=>to σ H fun x H1=>tyV K T x H1∧t σ H1 fun xs H2=>r x xs H2 Q
variable {o e:Expr} {es:List Expr} {to:TE} {t:TA} {name:Str} {apos cpos:Pos} {T id:String} {r:V→List V→Hp→VK→Prop}
theorem pe_bm0 (pa:PlainAttrs T) (slot:Slot T name id) (hty:typeOf (.builtin id)=pure (.type "method_descriptor")) (hm:MtR X id r) (ho:PE X o to)
  (hbase:attributeBase o name X.env (eval o X.env)=eval o X.env:=by rfl) (hline:(apos.endLine==cpos.line)=true:=by rfl):PE X (.Call (.Attribute o name apos) [] [] cpos) (qf1 X.K T r to):=by
 intro pins s σ H Q I h
 refine wpAny_Call_method0_late hbase hline (thn (ho pins s σ H _ I h) fun v s1 ⟨x,H1,I1,r1,ty,q1⟩=>?_)
 obtain ⟨h1,h2⟩:=qeq I1 r1 ty
 exact ⟨T,id,pa,slot,hty,h1,h2,Calls.callWith_builtin rfl (PySem.evalArgs_none (hm pins s1 σ H1 x [] v [] Q I1 r1 .nil q1))⟩
theorem pe_bm (pa:PlainAttrs T) (slot:Slot T name id) (hty:typeOf (.builtin id)=pure (.type "method_descriptor")) (hm:MtR X id r) (ho:PE X o to) (ha:PA X (e::es) t)
  (hbase:attributeBase o name X.env (eval o X.env)=eval o X.env:=by rfl)
  (hfew:((backTo cpos (starEach (e::es) X.env)).all (fun x=>!x.1)&&(backToKw cpos (keywordEach [] X.env)).all (fun x=>x.1.isSome)
   && decide ((e::es).length + ([]:List Keyword).length + (if ([]:List Keyword).isEmpty then 0 else 1) < 30))=true:=by rfl)
  (hline:(apos.endLine==cpos.line)=true:=by rfl) (hs:starEach (e::es) X.env=(false,eval e X.env)::starEach es X.env:=by rfl) (hplain:(backTo cpos (starEach es X.env)).any (·.1)=false:=by rfl) :
  PE X (.Call (.Attribute o name apos) (e::es) [] cpos) (tBM X.K T r to t):=by
 intro pins s σ H Q I h
 refine wpAny_Call_method_late hbase hfew hline rfl (thn (ho pins s σ H _ I h) fun v s1 ⟨x,H1,I1,r1,ty,q1⟩=>?_)
 obtain ⟨h1,h2⟩:=qeq I1 r1 ty
 refine ⟨T,id,pa,slot,hty,h1,h2,?_⟩
 have hA:=ha cpos pins s1 σ H1 _ I1 q1
 rw [hs] at hA ⊢
 refine Calls.callWith_builtin (by show (false||(backTo cpos (starEach es X.env)).any (·.1))=false;rw [hplain]<;>rfl) (Calls.evalArgs_plain ?_)
 exact thn hA fun us s2 ⟨vs,H2,I2,r2,q2⟩=>hm pins s2 σ H2 x vs v us Q I2 r1 r2 q2
end
end L2
namespace L2
open PySem PySem.Spec PyProof.Rows
def MtM (X:Cx) (id:String) (r:V→List V→Hp→VK→Prop):Prop:=
 ∀ (pins:List (Addr×Obj)) (s:Shared) (σ:St) (H:Hp) (x:V) (xs:List V) (v:Value) (us:List Value) (Q:VK),Inv X pins σ H s→RelV x v→Vals xs us→r x xs H Q →
  wpAny (model X.prog X.w) X.A (call (.builtin id) (v::us)) (EP X pins σ Q) X.xe s
theorem Vals.one:∀ {x:V} {us:List Value},Vals [x] us→∃ u,us=[u]∧RelV x u
 | _,_,.cons r .nil=>⟨_,rfl,r⟩
theorem Vals.zero:∀ {us:List Value},Vals [] us→us=[]
 | _,.nil=>rfl
theorem Vals.dropLast {xs:List V} {us:List Value} (h:Vals xs us):Vals xs.dropLast us.dropLast:=by
 induction h with
 | nil=>exact .nil
 | cons r t ih =>
  cases t with
  | nil=>exact .nil
  | cons q t'=>exact .cons r ih
theorem Vals.rep {xs:List V} {us:List Value} (h:Vals xs us):∀ k:Nat,Vals (List.replicate k xs).flatten (List.replicate k us).flatten
 | 0=>.nil
 | k + 1=>by
  rw [List.replicate_succ,List.replicate_succ,List.flatten_cons,List.flatten_cons]
  exact Vals.append h (Vals.rep h k)
theorem erase_last {α:Type} (l:List α):l.eraseIdx (l.length - 1)=l.dropLast:=by
 induction l with
 | nil=>rfl
 | cons a r ih =>
  cases r with
  | nil=>rfl
  | cons b r =>
   have e:(a::b::r).length - 1=((b::r).length - 1) + 1:=by
    have h1:(a::b::r).length=r.length + 2:=rfl
    have h2:(b::r).length=r.length + 1:=rfl
    omega
   rw [e,List.eraseIdx_cons_succ,ih]
   all_goals rfl
theorem qbO (its:List Value):∀ (k:Nat) (acc:List Value),
  List.foldl (fun x1 x2=>x1++x2) acc.toArray (List.replicate k its.toArray)=(acc++(List.replicate k its).flatten).toArray
 | 0,acc=>by simp
 | k + 1,acc=>by
  have e:acc.toArray++its.toArray=(acc++its).toArray:=by simp
  have e2:(acc++its)++(List.replicate k its).flatten=acc++(List.replicate (k + 1) its).flatten:=by
   rw [List.replicate_succ,List.flatten_cons,List.append_assoc]
  rw [← e2,← qbO its k (acc++its),← e,List.replicate_succ,List.foldl_cons]
section
variable {X:Cx} {pins:List (Addr×Obj)} {σ:St} {H:Hp} {s:Shared} {l b:Addr} {xs ys zs:List V}
theorem Inv.lset {its its':List Value} {n:Nat} {f:Array Value→Array Value} {t':Nat} (I:Inv X pins σ H s) (hH:H l=some (.lst xs))
  (e:s.heap.get? l=some { cls:=.type "list",data:=.seq its.toArray n }) (hf:f its.toArray=its'.toArray) (hv:Vals ys its') (hz:ys.length≤sizeLine) :
  Inv X pins σ (upd H l (.lst ys)) { s with heap:=s.heap.update l (Obj.mapSeq f),toks:=t' }:=by
 have q:=PySem.IsL.update e f
 rw [hf] at q
 refine I.write (x:=l) (e:=l) (by rw [hH];exact trivial) (.inl rfl) (fun b' u hb hu=>(Heap.get?_update_other s.heap (Obj.mapSeq f) (Ne.symm hb)).trans hu) ⟨_,q⟩ ?_
 exact ⟨hz,its',_,hv,q⟩
theorem Inv.lnew {its:List Value} {t':Nat} (I:Inv X pins σ H s) (hv:Vals ys its) (hz:ys.length≤sizeLine) :
  Inv X pins σ (upd H s.heap.objs.size (.lst ys)) { s with heap:=s.heap.push { cls:=.type "list",data:=.seq its.toArray },toks:=t' }:=
 I.laid (fun _ _ q=>Heap.get?_push_of_some _ q) (Nat.le_refl _) ⟨hz,its,0,hv,Heap.get?_push_size _ rfl⟩
theorem Inv.fresh (I:Inv X pins σ H s):H s.heap.objs.size=none:=I.hok.fresh (Nat.le_refl _)
theorem Inv.lstM (I:Inv X pins σ H s) (hH:H l=some (.lst xs)):xs.length≤sizeLine∧∃ (its:List Value) (n:Nat),Vals xs its∧xs.length=its.length∧s.heap.get? l=some { cls:=.type "list",data:=.seq its.toArray n }:=by
 obtain ⟨z,its,n,r,e⟩:=I.hok l _ hH
 exact ⟨z,its,n,r,r.length,e⟩
theorem qcR {n:Nat} (h:n≤sizeLine):Builtin.List.listTooLong n=false:=by
 unfold Builtin.List.listTooLong
 exact decide_eq_false (by omega)
end
section
variable {X:Cx}
def qdH:V→List V→Hp→VK→Prop:=fun x vs H Q=>∃ l xs y,x=.ref l∧vs=[y]∧H l=some (.lst xs)∧xs.length < sizeLine∧Q .non (upd H l (.lst (xs++[y])))
theorem mt_append:MtM X "list.append" qdH:=by
 intro pins s σ H x vs v us Q I rx rv h
 obtain ⟨l,xs,y,rfl,rfl,hH,hz,q⟩:=h
 cases rx
 obtain ⟨u,rfl,ru⟩:=rv.one
 obtain ⟨z,its,n,r,hl,e⟩:=I.lstM hH
 refine call_meets F.slot_list_append ⟨_,e,rfl⟩ F.entry_list_append (F.args_list_append_2 _ _) (PySem.list_append l its.toArray n u (by rw [List.size_toArray];omega)) ⟨e,?_⟩
 refine ⟨.non,_,I.lset (its':=its++[u]) hH e (by simp) (r.append (.cons ru .nil)) ?_,rfl,q⟩
 rw [List.length_append,List.length_singleton]
 omega
def qdI:V→List V→Hp→VK→Prop:=fun x vs H Q=>∃ l b xs zs,x=.ref l∧vs=[.ref b]∧H l=some (.lst xs)∧H b=some (.lst zs)∧xs.length + zs.length≤sizeLine∧Q .non (upd H l (.lst (xs++zs)))
theorem mt_extend:MtM X "list.extend" qdI:=by
 intro pins s σ H x vs v us Q I rx rv h
 obtain ⟨l,b,xs,zs,rfl,rfl,hH,hB,hz,q⟩:=h
 cases rx
 obtain ⟨u,rfl,ru⟩:=rv.one
 cases ru
 obtain ⟨z,its,n,r,hl,e⟩:=I.lstM hH
 obtain ⟨z2,its2,n2,r2,hl2,e2⟩:=I.lstM hB
 have hsz:its.toArray.size + its2.toArray.size≤sizeLine:=by rw [List.size_toArray,List.size_toArray];omega
 have hlong:¬ (!its.toArray.isEmpty&&Builtin.List.listTooLong (its.toArray.size + its2.toArray.size))=true:=by
  rw [qcR hsz,Bool.and_false]
  exact Bool.false_ne_true
 refine call_meets F.slot_list_extend ⟨_,e,rfl⟩ F.entry_list_extend (F.args_list_extend_2 _ _)
  (AutoSeq1.list_extend_list_list_0 l its.toArray n b its2.toArray n2 hlong (by rw [List.size_toArray];omega) (by omega)) ⟨e,e2,?_⟩
 refine ⟨.non,_,I.lset (its':=its++its2) hH e (by simp) (r.append r2) ?_,rfl,q⟩
 rw [List.length_append]
 omega
def qgn:V→List V→Hp→VK→Prop:=fun x vs H Q=>∃ l xs y,x=.ref l∧vs=[]∧H l=some (.lst xs)∧xs[xs.length - 1]?=some y∧Q y (upd H l (.lst xs.dropLast))
theorem mt_pop:MtM X "list.pop" qgn:=by
 intro pins s σ H x vs v us Q I rx rv h
 obtain ⟨l,xs,y,rfl,rfl,hH,hy,q⟩:=h
 cases rx
 have hus:=rv.zero
 subst hus
 obtain ⟨z,its,n,r,hl,e⟩:=I.lstM hH
 obtain ⟨u,hu,ru⟩:=r.get hy
 have hy':its.toArray[its.toArray.size - 1]?=some u:=by
  show its.toArray[its.length - 1]?=some u
  rw [← Array.getElem?_toList,← hl]
  exact hu
 refine call_meets F.slot_list_pop ⟨_,e,rfl⟩ F.entry_list_pop (F.args_list_pop_1 _) (MeetsSeq.list_pop_last l its.toArray n u hy' (by rw [List.size_toArray];omega)) ⟨e,?_⟩
 refine ⟨y,_,I.lset (its':=its.dropLast) hH e ?_ r.dropLast ?_,ru,q⟩
 ·show its.toArray.eraseIdxIfInBounds (its.toArray.size - 1)=its.dropLast.toArray
  rw [List.size_toArray,List.eraseIdxIfInBounds_toArray,erase_last]
 ·rw [List.length_dropLast]
  omega
def qer:V→List V→Hp→VK→Prop:=fun x vs H Q=>∃ l xs,x=.ref l∧vs=[]∧H l=some (.lst xs)∧Q .non (upd H l (.lst []))
theorem mt_clear:MtM X "list.clear" qer:=by
 intro pins s σ H x vs v us Q I rx rv h
 obtain ⟨l,xs,rfl,rfl,hH,q⟩:=h
 cases rx
 have hus:=rv.zero
 subst hus
 obtain ⟨z,its,n,r,hl,e⟩:=I.lstM hH
 refine call_meets F.slot_list_clear ⟨_,e,rfl⟩ F.entry_list_clear (F.args_list_clear_1 _) (AutoSeq1.list_clear_list_0 l its.toArray n (by rw [List.size_toArray];omega)) ⟨e,?_⟩
 exact ⟨.non,_,I.lset (its':=[]) (ys:=[]) hH e rfl .nil (Nat.zero_le _),rfl,q⟩
def qgo:R2:=fun x y H Q=>∃ l b xs zs,x=.ref l∧y=.ref b∧H l=some (.lst xs)∧H b=some (.lst zs)∧xs.length + zs.length≤sizeLine∧∀ p,H p=none→Q (.ref p) (upd H p (.lst (xs++zs)))
theorem op_cat:OpR X (binaryOp .Add) qgo:=by
 intro pins s σ H x y v u Q I rx ry h
 obtain ⟨l,b,xs,zs,rfl,rfl,hH,hB,hz,q⟩:=h
 cases rx
 cases ry
 obtain ⟨z,its,n,r,hl,e⟩:=I.lstM hH
 obtain ⟨z2,its2,n2,r2,hl2,e2⟩:=I.lstM hB
 refine PySem.P.add_list e e2 ?_ (by rw [List.size_toArray,List.size_toArray];omega)
 have ea:its.toArray++its2.toArray=(its++its2).toArray:=by simp
 rw [ea]
 exact ⟨.ref _,_,I.lnew (t':=s.toks) (r.append r2) (by rw [List.length_append];omega),rfl,q _ I.fresh⟩
def qgp:R2:=fun x y H Q=>∃ l k xs,x=.ref l∧y=.int k∧H l=some (.lst xs)∧-(2 ^ 63)≤k∧k < 2 ^ 63∧xs.length * k.toNat≤sizeLine ∧
 ∀ p,H p=none→Q (.ref p) (upd H p (.lst (List.replicate k.toNat xs).flatten))
theorem len_rep {α:Type} (xs:List α) (k:Nat):(List.replicate k xs).flatten.length=k * xs.length:=by
 induction k with
 | zero=>simp
 | succ k ih=>rw [List.replicate_succ,List.flatten_cons,List.length_append,ih,Nat.succ_mul,Nat.add_comm]
theorem qdJ:OpR X (binaryOp .Mult) qgp:=by
 intro pins s σ H x y v u Q I rx ry h
 obtain ⟨l,k,xs,rfl,rfl,hH,h1,h2,hz,q⟩:=h
 cases rx
 obtain ⟨t,rfl⟩:=ry
 obtain ⟨z,its,n,r,hl,e⟩:=I.lstM hH
 have hlen:its.toArray.size * k.toNat≤sizeLine:=by rw [List.size_toArray,← hl];exact hz
 have hcap:¬ its.toArray.size * k.toNat > (2 ^ 63 - 1) / 8:=by
  have:(sizeLine:Nat)≤(2 ^ 63 - 1) / 8:=by decide
  omega
 have hfit:¬ (!Builtin.List.listFitsIndex k)=true:=by
  rw [fitsIndex_both h1 h2]
  exact Bool.false_ne_true
 have hlong:¬ Builtin.List.listTooLong (its.toArray.size * k.toNat)=true:=by
  rw [qcR hlen]
  exact Bool.false_ne_true
 have hnew:List.foldl (fun x1 x2=>x1++x2) #[] (List.replicate (if its.toArray.isEmpty=true then 0 else k.toNat) its.toArray)=(List.replicate k.toNat its).flatten.toArray:=by
  have f0:∀ m:Nat,List.foldl (fun x1 x2=>x1++x2) #[] (List.replicate m its.toArray)=(List.replicate m its).flatten.toArray:=fun m=>by
   have:=qbO its m []
   rw [List.nil_append] at this
   exact this
  rw [f0]
  cases its with
  | nil=>simp
  | cons a r'=>rw [if_neg (by simp)]
 refine wpAny_binaryOp_repeat_ref (T:="list") (U:="int") (by decide) ⟨_,e,rfl⟩ (fun s'=>typeIs_int s' k t) noFill_list_mul F.fills_int_mul F.slot_int_rmul repeat_list F.slot_int_index.lookup
  (call_meets F.slot_int_rmul (typeIs_int s k t) F.entry_int_rmul (F.args_int_rmul_2 _ _) (int___rmul___int_list k t l its.toArray n)
   ⟨e,rfl,⟨_,e,rfl⟩,call_meets F.slot_list_mul ⟨_,e,rfl⟩ F.entry_list_mul (F.args_list_mul_2 _ _) (AutoListH.list___mul___list_int_3 l its.toArray n k t hfit hcap hlong) ⟨e,?_⟩⟩)
 rw [hnew]
 exact ⟨.ref _,_,I.lnew (t':=s.toks) (r.rep k.toNat) (by rw [len_rep,Nat.mul_comm];exact hz),rfl,q _ I.fresh⟩
end
section
variable {prog:Program} {w:World} {A:Around} {E:Value→Shared→Prop} {s:Shared}
set_option maxRecDepth 100000 in
end
section
variable {X:Cx}
end
end L2
namespace L2
open PySem PySem.Spec PyProof.Rows
section
variable {κ:Type} [DecidableEq κ]
def zL (kvs:List (κ×V)) (k:κ):Option V:=(kvs.find? fun kv=>decide (kv.1=k)).map (·.2)
def qcf (kvs:List (κ×V)) (k:κ) (v:V):List (κ×V):=
 if (kvs.any fun kv=>decide (kv.1=k))=true then kvs.map (fun kv=>if kv.1=k then (kv.1,v) else kv) else kvs++[(k,v)]
def dropK (kvs:List (κ×V)) (k:κ):List (κ×V):=kvs.filter fun kv=>decide (kv.1≠k)
theorem jq {p:κ×V} {r:List (κ×V)} {k:κ} (e:p.1=k):zL (p::r) k=some p.2:=by simp [zL,List.find?_cons,e]
theorem jh {p:κ×V} {r:List (κ×V)} {k:κ} (e:¬ p.1=k):zL (p::r) k=zL r k:=by simp [zL,List.find?_cons,e]
theorem qae (k:κ):∀ kvs:List (κ×V),(kvs.any fun kv=>decide (kv.1=k))=(zL kvs k).isSome
 | []=>rfl
 | p::r=>by
  rw [List.any_cons]
  by_cases e:p.1=k
  ·simp only [jq e,decide_eq_true e,Bool.true_or,Option.isSome_some]
  ·rw [jh e,decide_eq_false e,Bool.false_or];exact qae k r
theorem qcS (k j:κ) (y:V):∀ kvs:List (κ×V),zL (kvs.map fun kv=>if kv.1=k then (kv.1,y) else kv) j=(zL kvs j).map fun x=>if j=k then y else x
 | []=>rfl
 | p::r=>by
  have ih:=qcS k j y r
  rw [List.map_cons]
  by_cases h:p.1=k
  ·rw [if_pos h]
   by_cases e:p.1=j
   ·rw [jq (p:=(p.1,y)) e,jq e,Option.map_some,if_pos (e.symm.trans h)]
   ·rw [jh (p:=(p.1,y)) e,jh e,ih]
  ·rw [if_neg h]
   by_cases e:p.1=j
   ·rw [jq (p:=p) e,jq e,Option.map_some,if_neg (fun z=>h (e.trans z))]
   ·rw [jh (p:=p) e,jh e,ih]
theorem qbP (k j:κ) (y:V):∀ kvs:List (κ×V),zL kvs k=none→zL (kvs++[(k,y)]) j=if j=k then some y else zL kvs j
 | [],_=>by
  by_cases e:k=j
  ·rw [if_pos e.symm];exact jq (p:=(k,y)) e
  ·rw [if_neg (fun z=>e z.symm)];exact jh (p:=(k,y)) e
 | p::r,hn=>by
  rw [List.cons_append]
  have hk:¬ p.1=k:=fun z=>by rw [jq z] at hn;cases hn
  rw [jh hk] at hn
  have ih:=qbP k j y r hn
  by_cases e:p.1=j
  ·rw [jq e,jq e,if_neg (fun z=>hk (e.trans z))]
  ·rw [jh e,jh e,ih]
theorem valV_put (kvs:List (κ×V)) (k j:κ) (y:V):zL (qcf kvs k y) j=if j=k then some y else zL kvs j:=by
 unfold qcf
 by_cases a:(kvs.any fun kv=>decide (kv.1=k))=true
 ·rw [if_pos a,qcS]
  rw [qae] at a
  by_cases e:j=k
  ·obtain ⟨x,hx⟩:=Option.isSome_iff_exists.mp a
   rw [if_pos e,e,hx,Option.map_some,if_pos rfl]
  ·rw [if_neg e]
   cases zL kvs j with
   | none=>rfl
   | some x=>rw [Option.map_some,if_neg e]
 ·rw [if_neg a]
  refine qbP k j y kvs ?_
  rw [qae] at a
  cases q:zL kvs k with
  | none=>rfl
  | some x=>rw [q] at a;exact (a rfl).elim
theorem zU (kvs:List (κ×V)) (k:κ) (v:V):(qcf kvs k v).length≤kvs.length + 1:=by
 unfold qcf
 split
 ·rw [List.length_map];omega
 ·rw [List.length_append,List.length_cons,List.length_nil];omega
theorem qcT {kvs:List (κ×V)} {k:κ} (v:V) (h:zL kvs k=none):qcf kvs k v=kvs++[(k,v)]:=by
 unfold qcf
 rw [qae,h]
 exact if_neg (by decide)
theorem RelO.isSome_eq {o:Option V} {u:Option Value} (r:RelO o u):o.isSome=u.isSome:=by
 cases o with
 | none=>cases u with
  | none=>rfl
  | some _=>exact (show False from r).elim
 | some _=>cases u with
  | none=>exact (show False from r).elim
  | some _=>rfl
theorem KV.val {kvs:List (κ×V)} {vs:List (κ×Value)} (r:KV kvs vs) (k:κ):RelO (zL kvs k) (valueAt vs k):=by
 unfold KV at r
 induction r with
 | nil=>exact True.intro
 | @cons p q ps qs h t ih =>
  obtain ⟨h1,h2⟩:=h
  by_cases e:p.1=k
  ·have e':q.1=k:=h1.symm.trans e
   have b:valueAt (q::qs) k=some q.2:=by simp [valueAt,List.find?_cons,e']
   rw [jq e,b];exact h2
  ·have e':¬ q.1=k:=fun z=>e (h1.trans z)
   have b:valueAt (q::qs) k=valueAt qs k:=by simp [valueAt,List.find?_cons,e']
   rw [jh e,b];exact ih
theorem KV.any {kvs:List (κ×V)} {vs:List (κ×Value)} (r:KV kvs vs) (k:κ):(kvs.any fun kv=>decide (kv.1=k))=vs.any fun kv=>decide (kv.1=k):=by
 unfold KV at r
 induction r with
 | nil=>rfl
 | cons h t ih=>rw [List.any_cons,List.any_cons,ih,h.1]
theorem KV.repl {kvs:List (κ×V)} {vs:List (κ×Value)} (r:KV kvs vs) (k:κ) {y:V} {u:Value} (ry:RelV y u) :
  KV (kvs.map fun kv=>if kv.1=k then (kv.1,y) else kv) (vs.map fun kv=>if kv.1=k then (kv.1,u) else kv):=by
 unfold KV at r ⊢
 induction r with
 | nil=>exact .nil
 | @cons p q ps qs h t ih =>
  rw [List.map_cons,List.map_cons]
  refine .cons ?_ ih
  obtain ⟨h1,h2⟩:=h
  by_cases e:p.1=k
  ·rw [if_pos e,if_pos (h1.symm.trans e)];exact ⟨h1,ry⟩
  ·rw [if_neg e,if_neg (fun z=>e (h1.trans z))];exact ⟨h1,h2⟩
theorem KV.put {kvs:List (κ×V)} {vs:List (κ×Value)} (r:KV kvs vs) (k:κ) {y:V} {u:Value} (ry:RelV y u):KV (qcf kvs k y) (stored vs k u):=by
 unfold qcf stored
 rw [r.any k]
 by_cases e:(vs.any fun kv=>decide (kv.1=k))=true
 ·rw [if_pos e,if_pos e];exact r.repl k ry
 ·rw [if_neg e,if_neg e];exact Paired.snoc r ⟨rfl,ry⟩
theorem KV.length {kvs:List (κ×V)} {vs:List (κ×Value)} (r:KV kvs vs):kvs.length=vs.length:=Paired.length r
end
theorem qdK {P:Program} {w:World} {k:Key} {u:Value} (r:RelV (kV k) u):(jC P w).is k u=true:=by
 cases k with
 | inl i=>obtain ⟨t,e⟩:=(show ∃ t,u=Value.int i t from r);subst e;exact mixKind_int P w i t
 | inr x=>obtain ⟨t,e⟩:=(show ∃ t,u=Value.str x t from r);subst e;exact mixKind_str P w x t
theorem qbQ {P:Program} {w:World}:∀ {ks:List Key} {us:List Value},Vals (ks.map kV) us→ItemsAre (jC P w) ks us
 | [],_,r=>by rw [List.map_nil] at r;cases r;exact .nil
 | k::ks,_,r=>by
  rw [List.map_cons] at r
  cases r with
  | cons h t=>exact .cons (qdK h) (qbQ t)
abbrev KT (H:Hp):List (List Key×V)→List (List Key×Addr×Value)→Prop:=Paired fun p q=>p.1=q.1∧H q.2.1=some (.tup (p.1.map kV))∧RelV p.2 q.2.2
theorem KT.val {H:Hp} {kvs:List (List Key×V)} {xs:List (List Key×Addr×Value)} (r:KT H kvs xs) (k:List Key):RelO (zL kvs k) ((atKey xs k).map (·.2)):=by
 induction r with
 | nil=>exact True.intro
 | @cons p q ps qs h t ih =>
  obtain ⟨h1,_,h2⟩:=h
  by_cases e:p.1=k
  ·have e':q.1=k:=h1.symm.trans e
   have b:atKey (q::qs) k=some q.2:=by simp [atKey,List.find?_cons,e']
   rw [jq e,b];exact h2
  ·have e':¬ q.1=k:=fun z=>e (h1.trans z)
   have b:atKey (q::qs) k=atKey qs k:=by simp [atKey,List.find?_cons,e']
   rw [jh e,b];exact ih
theorem KT.repl {H:Hp} {kvs:List (List Key×V)} {xs:List (List Key×Addr×Value)} (r:KT H kvs xs) (k:List Key) {y:V} {u:Value} (ry:RelV y u) :
  KT H (kvs.map fun kv=>if kv.1=k then (kv.1,y) else kv) (xs.map (putAt k u)):=by
 induction r with
 | nil=>exact .nil
 | @cons p q ps qs h t ih =>
  rw [List.map_cons,List.map_cons]
  refine .cons ?_ ih
  obtain ⟨h1,h2,h3⟩:=h
  unfold putAt
  by_cases e:p.1=k
  ·rw [if_pos e,if_pos (h1.symm.trans e)];exact ⟨h1,h2,ry⟩
  ·rw [if_neg e,if_neg (fun z=>e (h1.trans z))];exact ⟨h1,h2,h3⟩
theorem KT.put {H:Hp} {kvs:List (List Key×V)} {xs:List (List Key×Addr×Value)} (r:KT H kvs xs) (k:List Key) {b:Addr} {y:V} {u:Value} (hb:H b=some (.tup (k.map kV))) (ry:RelV y u) :
  KT H (qcf kvs k y) (storedH xs k b u):=by
 have e:(kvs.any fun kv=>decide (kv.1=k))=(atKey xs k).isSome:=by
  rw [qae,(r.val k).isSome_eq,Option.isSome_map]
 unfold qcf storedH
 rw [e]
 by_cases q:(atKey xs k).isSome=true
 ·rw [if_pos q,if_pos q];exact r.repl k ry
 ·rw [if_neg q,if_neg q];exact Paired.snoc r ⟨rfl,hb,ry⟩
theorem KT.keeps {H H':Hp} {kvs:List (List Key×V)} {xs:List (List Key×Addr×Value)} (r:KT H kvs xs) (ht:∀ b ys,H b=some (.tup ys)→H' b=some (.tup ys)):KT H' kvs xs:=
 Paired.mapP r fun _ _ z=>⟨z.1,ht _ _ z.2.1,z.2.2⟩
section
variable {P:Program} {w:World} {H:Hp} {h:Heap} {a:Addr}
theorem qfn {u:HO} (ok:HOk P w H h) (e:Rd H a u):ObjOk P w H h a u:=e.ok ok
theorem qdn {kvs:List (Key×V)} (ok:HOk P w H h) (e:Rd H a (.dK kvs)):kvs.length≤sizeLine∧(a==sysModules)=false∧∃ vs,KV kvs vs∧h.DictOf (jC P w) a vs:=
 show ObjOk P w H h a (.dK kvs) from qfn ok e
theorem qfo {kvs:List (Key×V)} (ok:HOk P w H h) (e:H a=some (.dK kvs)):kvs.length≤sizeLine∧(a==sysModules)=false∧∃ vs,KV kvs vs∧h.DictOf (jC P w) a vs:=qdn ok (.inl e)
theorem qbR {ks:List Key} (ok:HOk P w H h) (e:H a=some (.tup (ks.map kV))):(tupleKind (jC P w)).is h ks a:=by
 obtain ⟨_,its,r,o,h1,h2,n,h3⟩:=(show ObjOk P w H h a (.tup (ks.map kV)) from ok a _ e)
 exact ⟨o,its.toArray,n,h1,h2,h3,by simpa using qbQ r⟩
theorem qdL {kvs:List (List Key×V)} (ok:HOk P w H h) (e:Rd H a (.dT kvs)):kvs.length≤sizeLine∧(a==sysModules)=false ∧
  ∃ xs,KT H kvs xs∧h.DictOfH (tupleKind (jC P w)) a xs:=by
 obtain ⟨z,y,xs,r,o,es,ep,h1,h2,h3,h4,h5⟩:=(show ObjOk P w H h a (.dT kvs) from qfn ok e)
 refine ⟨z,y,xs,r,o,es,ep,h1,h2,h3,h4,fun x hx=>?_,h5⟩
 have all:∀ {l:List (List Key×V)} {m:List (List Key×Addr×Value)},KT H l m→∀ x∈m,(tupleKind (jC P w)).is h x.1 x.2.1:=by
  intro l m q
  induction q with
  | nil=>intro x hx;exact nomatch hx
  | @cons p q ps qs hq t ih =>
   intro x hx
   rcases List.mem_cons.mp hx with e | hx
   ·subst e
    exact qbR ok (by rw [← hq.1];exact hq.2.1)
   ·exact ih x hx
 exact all r x hx
theorem dt_of {kvs:List (List Key×V)} (ok:HOk P w H h) (e:H a=some (.dT kvs)):kvs.length≤sizeLine∧(a==sysModules)=false ∧
  ∃ xs,KT H kvs xs∧h.DictOfH (tupleKind (jC P w)) a xs:=qdL ok (.inl e)
end
def DGet (H:Hp) (a:Addr) (y:V) (r:Option V):Prop:=
 (∃ kvs k,Rd H a (.dK kvs)∧y=kV k∧r=zL kvs k)∨∃ kvs k b,Rd H a (.dT kvs)∧y=.ref b∧H b=some (.tup (k.map kV))∧r=zL kvs k
def DPut (H:Hp) (a:Addr) (y v:V) (H':Hp):Prop:=
 (∃ kvs k,H a=some (.dK kvs)∧y=kV k∧kvs.length < sizeLine∧H'=upd H a (.dK (qcf kvs k v))) ∨
 ∃ kvs k b,H a=some (.dT kvs)∧y=.ref b∧H b=some (.tup (k.map kV))∧kvs.length < sizeLine∧H'=upd H a (.dT (qcf kvs k v))
theorem DGet.k {H:Hp} {a:Addr} {kvs:List (Key×V)} {k:Key} (e:H a=some (.dK kvs)):DGet H a (kV k) (zL kvs k):=.inl ⟨kvs,k,.inl e,rfl,rfl⟩
theorem DPut.k {H:Hp} {a:Addr} {kvs:List (Key×V)} {k:Key} {v:V} (e:H a=some (.dK kvs)) (hl:kvs.length < sizeLine):DPut H a (kV k) v (upd H a (.dK (qcf kvs k v))):=.inl ⟨kvs,k,e,rfl,hl,rfl⟩
section
variable {X:Cx} {pins:List (Addr×Obj)} {σ:St} {H:Hp} {s:Shared} {a:Addr} {y v:V} {u r:Value} {o:Option V} {A:Around} {E:Value→Shared→Prop}
theorem Inv.big (I:Inv X pins σ H s):sysModules < s.heap.objs.size:=by
 have h:mainGlobals < s.heap.objs.size:=(I.mod.glob.keeps I.bk).lt
 exact Nat.lt_trans (by decide) h
theorem d_getItem {Q:Value→Shared→Prop} (hu:A.units + 1 < cLine) (I:Inv X pins σ H s) (g:DGet H a y (some v)) (ry:RelV y u) (h:∀ w' s',Inv X pins σ H s'→RelV v w'→Q w' s') :
  wpAny (model X.prog X.w) A (getItem (.ref a) u) Q E s:=by
 rcases g with ⟨kvs,k,e,ey,l⟩ | ⟨kvs,k,b,e,ey,eb,l⟩
 ·subst ey
  obtain ⟨z,hd,vs,rel,dd⟩:=qdn I.hok e
  obtain ⟨w',hw,rw'⟩:=RelO.some_of (v:=v) (o:=valueAt vs k) (by rw [l];exact rel.val k)
  exact wpAny_getItem_of (qdK ry) dd.mapOf hw (h w' _ (I.tok _) rw')
 ·subst ey
  cases (show u=Value.ref b from ry)
  obtain ⟨z,hd,xs,rel,dd⟩:=qdL I.hok e
  obtain ⟨w',hw,rw'⟩:=RelO.some_of (v:=v) (o:=(atKey xs k).map (·.2)) (by rw [l];exact rel.val k)
  obtain ⟨p,hp,hp2⟩:=Option.map_eq_some_iff.mp hw
  refine wpAny_getItem_heap (tupleKind_room_in1 hu) (qbR I.hok eb) dd hp ?_
  rw [hp2]
  exact h w' _ (I.tok _) rw'
theorem d_in {Q:Value→Shared→Prop} (hu:A.units + 1 < cLine) (I:Inv X pins σ H s) (g:DGet H a y o) (ry:RelV y u) (h:∀ s',Inv X pins σ H s'→Q (.bool o.isSome) s') :
  wpAny (model X.prog X.w) A (compareOp .In u (.ref a)) Q E s:=by
 rcases g with ⟨kvs,k,e,ey,l⟩ | ⟨kvs,k,b,e,ey,eb,l⟩
 ·subst ey
  obtain ⟨z,hd,vs,rel,dd⟩:=qdn I.hok e
  refine wpAny_in_of (qdK ry) hd dd.mapOf ?_
  rw [← (rel.val k).isSome_eq,← l]
  exact h _ (I.tok _)
 ·subst ey
  cases (show u=Value.ref b from ry)
  obtain ⟨z,hd,xs,rel,dd⟩:=qdL I.hok e
  refine wpAny_in_heap (tupleKind_room_in1 hu) (qbR I.hok eb) hd dd ?_
  have q:=(rel.val k).isSome_eq
  rw [Option.isSome_map] at q
  rw [← q,← l]
  exact h _ (I.tok _)
theorem d_notIn {Q:Value→Shared→Prop} (hu:A.units + 1 < cLine) (I:Inv X pins σ H s) (g:DGet H a y o) (ry:RelV y u) (h:∀ s',Inv X pins σ H s'→Q (.bool (!o.isSome)) s') :
  wpAny (model X.prog X.w) A (compareOp .NotIn u (.ref a)) Q E s:=by
 rcases g with ⟨kvs,k,e,ey,l⟩ | ⟨kvs,k,b,e,ey,eb,l⟩
 ·subst ey
  obtain ⟨z,hd,vs,rel,dd⟩:=qdn I.hok e
  refine wpAny_notIn_of (qdK ry) hd dd.mapOf ?_
  rw [← (rel.val k).isSome_eq,← l]
  exact h _ (I.tok _)
 ·subst ey
  cases (show u=Value.ref b from ry)
  obtain ⟨z,hd,xs,rel,dd⟩:=qdL I.hok e
  refine wpAny_notIn_heap (tupleKind_room_in1 hu) (qbR I.hok eb) hd dd ?_
  have q:=(rel.val k).isSome_eq
  rw [Option.isSome_map] at q
  rw [← q,← l]
  exact h _ (I.tok _)
theorem qdM {h':Heap} {t':Nat} {ob:HO} (I:Inv X pins σ H s) (mu:Mut (H a)) (hs:Heap.SameBut a s.heap h') (he:∃ q,h'.get? a=some q) (new:ObjOk X.prog X.w (upd H a ob) h' a ob) :
  Inv X pins σ (upd H a ob) { s with heap:=h',toks:=t' }:=
 I.write (x:=a) (e:=a) mu (.inl rfl) (fun b q hb z=>(hs.2 b hb).trans z) he new
theorem dk_new {P:Program} {w:World} {H':Hp} {h':Heap} {kvs:List (Key×V)} {vs:List (Key×Value)} (z:kvs.length≤sizeLine) (hd:(a==sysModules)=false) (rel:KV kvs vs) (dd:h'.DictOf (jC P w) a vs) :
  ObjOk P w H' h' a (.dK kvs):=⟨z,hd,vs,rel,dd⟩
theorem d_setItem {H':Hp} {Q:Unit→Shared→Prop} (hu:A.units + 1 < cLine) (I:Inv X pins σ H s) (g:DPut H a y v H') (ry:RelV y u) (rv:RelV v r) (h:∀ s',Inv X pins σ H' s'→Q () s') :
  wpAny (model X.prog X.w) A (setItem (.ref a) u r) Q E s:=by
 rcases g with ⟨kvs,k,e,ey,l,eH⟩ | ⟨kvs,k,b,e,ey,eb,l,eH⟩
 ·subst ey eH
  obtain ⟨z,hd,vs,rel,dd⟩:=qfo I.hok e
  have hz:vs.length≤sizeLine:=by rw [← rel.length];exact z
  have hl:(qcf kvs k v).length≤sizeLine:=by have:=zU kvs k v;omega
  refine wpAny_setItem_pairs (hsz:=hz) (qdK ry) dd fun h' dd' hs=>h _ ?_
  have he:∃ q,h'.get? a=some q:=let ⟨q,_,_,hq,_⟩:=dd';⟨q,hq⟩
  exact qdM I (by rw [e];exact True.intro) hs he (dk_new hl hd (rel.put k rv) dd')
 ·subst ey eH
  cases (show u=Value.ref b from ry)
  obtain ⟨z,hd,xs,rel,dd⟩:=dt_of I.hok e
  have hz:xs.length≤sizeLine:=by rw [← Paired.length rel];exact z
  have hl:(qcf kvs k v).length≤sizeLine:=by have:=zU kvs k v;omega
  refine wpAny_setItem_heap (hsz:=hz) (tupleKind_room_in1 hu) (qbR I.hok eb) dd fun h' dd' hs=>h _ ?_
  obtain ⟨q,es,ep,hq,h2,h3,h4,_,h5⟩:=dd'
  refine qdM I (by rw [e];exact True.intro) hs ⟨q,hq⟩ ⟨hl,hd,_,(rel.put k eb rv).keeps fun c ys ec=>?_,q,es,ep,hq,h2,h3,h4,h5⟩
  rw [qi (qaG ec e (fun z=>nomatch z))]
  exact ec
end
section
variable {X:Cx} {pins:List (Addr×Obj)} {σ:St} {H:Hp} {s:Shared} {a:Addr} {kvs:List (Key×V)} {k:Key} {u:Value} {A:Around} {E:Value→Shared→Prop}
theorem d_len {Q:Value→Shared→Prop} (I:Inv X pins σ H s) (e:Rd H a (.dK kvs)) (h:∀ t s',Inv X pins σ H s'→Q (.int kvs.length t) s'):wpAny (model X.prog X.w) A (call (.builtin "len") [.ref a]) Q E s:=by
 obtain ⟨z,hd,vs,rel,dd⟩:=qdn I.hok e
 refine call_len_dict hd dd (by rw [← rel.length];rw [sizeLine_eq] at z;omega) ?_
 rw [← rel.length]
 exact h _ _ (I.tok _)
end
theorem dict_typeIs {X:Cx} {pins:List (Addr×Obj)} {σ:St} {H:Hp} {s:Shared} {a:Addr} {y:V} {o:Option V} (I:Inv X pins σ H s) (g:DGet H a y o):s.TypeIs (.ref a) "dict":=by
 rcases g with ⟨kvs,k,e,_,_⟩ | ⟨kvs,k,b,e,_,_,_⟩
 ·obtain ⟨_,_,vs,_,dd⟩:=qdn I.hok e
  exact dd.typeIs
 ·obtain ⟨_,_,xs,_,dd⟩:=qdL I.hok e
  exact dd.typeIs
section
variable {X:Cx} {o i e value:Expr} {pos pos' tpos:Pos} {td ty tv:TE}
end
theorem dk_empty {P:Program} {w:World} {H:Hp} (h:Heap) (hb:sysModules < h.objs.size):ObjOk P w H (h.push { cls:=.type "dict",data:=.dict #[] }) h.objs.size (.dK []):=
 ⟨Nat.zero_le _,beq_eq_false_iff_ne.mpr (Ne.symm (Nat.ne_of_lt hb)),[],.nil,Heap.DictOf.new h⟩
def tDNewK:TE:=fun _ H Q=>∀ p,H p=none→Q (.ref p) (upd H p (.dK []))
section
variable {X:Cx} {pos:Pos}
theorem qaL:PE X (.Dict [] [] pos) tDNewK:=fun pins s σ H Q I h =>
 wpAny_Dict_empty ⟨.ref s.heap.objs.size,_,I.laid (a:=s.heap.objs.size) (o:=.dK []) (t':=s.toks) (fun _ _ q=>Heap.get?_push_of_some _ q) (Nat.le_refl _) (dk_empty s.heap I.big),rfl,h _ (I.hok.fresh (Nat.le_refl _))⟩
end
structure M1 (X:Cx) (o:Expr) (m:Str) (apos:Pos) (e:Expr) (cpos:Pos):Prop where
 base:attributeBase o m X.env (eval o X.env)=eval o X.env
 few:((backTo cpos (starEach [e] X.env)).all (fun x=>!x.1)&&(backToKw cpos (keywordEach [] X.env)).all (fun x=>x.1.isSome)
  && decide (([e]:List Expr).length + ([]:List Keyword).length + (if ([]:List Keyword).isEmpty then 0 else 1) < 30))=true
 line:(apos.endLine==cpos.line)=true
 trees:backTo cpos (starEach [e] X.env)=[(false,eval e X.env)]
structure M2 (X:Cx) (o:Expr) (m:Str) (apos:Pos) (e f:Expr) (cpos:Pos):Prop where
 base:attributeBase o m X.env (eval o X.env)=eval o X.env
 few:((backTo cpos (starEach [e,f] X.env)).all (fun x=>!x.1)&&(backToKw cpos (keywordEach [] X.env)).all (fun x=>x.1.isSome)
  && decide (([e,f]:List Expr).length + ([]:List Keyword).length + (if ([]:List Keyword).isEmpty then 0 else 1) < 30))=true
 line:(apos.endLine==cpos.line)=true
 trees:backTo cpos (starEach [e,f] X.env)=[(false,eval e X.env),(false,eval f X.env)]
def IsD (H:Hp) (a:Addr):Prop:=(∃ kvs,Rd H a (.dK kvs))∨∃ kvs,Rd H a (.dT kvs)
section
variable {X:Cx} {pins:List (Addr×Obj)} {σ:St} {H:Hp} {s:Shared} {a:Addr} {y d:V} {u r:Value} {o:Option V} {A:Around} {E:Value→Shared→Prop}
end
def tDGet2 (td ty tx:TE):TE:=fun σ H Q=>td σ H fun x H1=>∃ a,x=.ref a∧IsD H1 a∧ty σ H1 fun y H2=>tx σ H2 fun z H3=>∃ o,DGet H3 a y o∧Q (o.getD z) H3
section
variable {X:Cx} {o e f:Expr} {apos cpos:Pos} {td ty tx:TE}
end
section
variable {X:Cx} {pins:List (Addr×Obj)} {σ:St} {H:Hp} {s:Shared} {a:Addr} {kvs:List (Key×V)} {A:Around} {E:Value→Shared→Prop}
end
section
variable {X:Cx} {pins:List (Addr×Obj)} {σ:St} {H:Hp} {s:Shared} {a:Addr} {y:V} {u:Value} {A:Around} {E:Value→Shared→Prop}
end
end L2
namespace Att
open PySem PySem.W PySem.Calls PyProof.Rows
theorem ints_of_wellAll {P:Params} {h:Heap}:∀ (ns:List Int) (vs:List Value),WellAll P h vs (ns.map WData.int)→IntsAre vs ns:=by
 intro ns
 induction ns with
 | nil =>
  intro vs w
  rw [List.map_nil] at w
  cases w
  exact .nil
 | cons n ns ih =>
  intro vs w
  rw [List.map_cons] at w
  cases w with
  | cons a b =>
   cases a
   exact .cons _ _ (ih _ b)
theorem script_of {l:OpenLaw} {n:Nat} (hn:l.most=some n) {P:Params} {h:Heap} {args:List WData} {vals:List Value}
  (hpre:l.row.toRowW.claim.pre args=true) (hwl:WellAll P h vals args) :
  ∃ a vs ns,vals=[Value.ref a]∧args=[WData.list (ns.map WData.int)]∧h.get? a=some { cls:=.type "list",data:=.seq vs.toArray }∧IntsAre vs ns∧ns.length≤n:=by
 have hsh:WShape.hasAll [] args [.list .int]=true:=(pre_splitW hpre).1
 have hc:l.pre.holds [] { args:=args }=true:=(pre_splitW hpre).2
 obtain ⟨d,r,rfl,h1,h2⟩:=hasAllW_cons hsh
 obtain rfl:=hasAllW_nil h2
 obtain ⟨xs,rfl,h3⟩:=hasW_list h1
 obtain ⟨ns,rfl⟩:=items_int h3
 have hlen:ns.length≤n:=by
  unfold OpenLaw.pre at hc
  have h4:(WTm.not (.lt (.lit (.int (n:Int))) (.len (.arg 0)))).holds [] { args:=[.list (ns.map .int)] }=true:=by
   have h4:=(holds_andW hc).1
   rw [hn] at h4
   exact h4
  have h5:=condW_of h4 (w_not (w_lt w_lit (w_len_list (w_arg rfl))))
  rw [List.length_map] at h5
  refine Nat.le_of_not_lt fun q=>?_
  have q':(n:Int) < ((ns.length:Nat):Int):=by omega
  first
   | (rw [decide_eq_true q'] at h5;exact absurd h5 (by decide))
   | (simp at h5;omega)
 cases hwl with
 | cons w1 w2 =>
  cases w2
  cases w1 with
  | list ho hall=>exact ⟨_,_,ns,rfl,rfl,ho,ints_of_wellAll ns _ hall,hlen⟩
theorem post_true (l:OpenLaw) (args:List WData):l.row.toRowW.claim.post args (.bool true) args=true:=
 postW_of (r:=l.row.toRowW) (X:=(true==true))
  (show WShape.has [] (.bool true) .bool=true by first | rfl | decide | simp [WShape.has,WShape.arms,WShape.armsAll])
  (show (WTm.eq .res (.lit (.bool true))).value [] { args:=args,res:=some (.bool true),after:=args }=some (.bool (true==true)) from w_eq_bool (w_res rfl) w_lit) rfl
theorem attach_call {l:OpenLaw} {n:Nat} {q:Program} {loose:List Str} {XP:(Str→Option Value)→Heap→Prop} {YP:World→Heap→Prop} {d:DefRec}
  (hn:l.most=some n) (hdf:d.params.defaults=[])
  (call:∀ (w:World) (s₀ s₁:Shared) (mg mb:Str→Option Value) (fa:Addr) (o:Obj) (pm cd doc:Value) (a:Addr) (vs:List Value) (ns:List Int),
   Ground q loose [] XP w s₀ mg mb s₁.heap→YP w s₁.heap →
   s₁.heap.get? fa=some o→o.data=.func (docDef d.name d.params d.body d.scope pm cd doc)→s₁.heap.CodeRec cd d.name→mg d.name=some (.ref fa) →
   s₁.heap.get? a=some { cls:=.type "list",data:=.seq vs.toArray }→IntsAre vs ns→ns.length≤n→s₁.gens=#[] →
   codeAny (model l.prog w) callerA (.call (.ref fa) ⟨[.ref a],[]⟩) (fun r s'=>r=.ok (.ret (.bool true))∧OldK s₁.heap s'.heap∧s'.os=s₁.os∧AllBare s'.gens) s₁) :
  WalkO q loose XP YP l.row.toRowW d [] (fun f vs=>PySem.call f vs):=by
 intro w s₀ s₁ mg mb G Y fa o pm cd doc dV kV ho hd hcd hD hmg hg args vals as hpre hlay hrd hwl hlo
 obtain rfl:dV=.none:=Dflts.none hD hdf
 obtain rfl:kV=.none:=Dflts.noKw hD
 obtain ⟨a,vs,ns,rfl,rfl,hobj,hints,hlen⟩:=script_of hn hpre hwl
 refine enter_call (codeAny_mono (call w s₀ s₁ mg mb fa o pm cd doc a vs ns G Y ho (fd_plain hd) hcd hmg hobj hints hlen hg) fun r s' hq=>?_)
 obtain ⟨rfl,h2,h3,h4⟩:=hq
 exact ⟨.inl ⟨.bool true,.bool true,[],rfl,fun _=>rfl,.bool true,post_true l _,fun _=>⟨List.Pairwise.nil,fun _ hm=>(nomatch hm)⟩⟩,h2,h3,h4⟩
section
variable {prog:Program} {w:World} {A:Around} {E:Value→Shared→Prop} {s:Shared} {K:Frag}
def ledger (h:Heap) (L d:Addr):List (Addr×Obj):=(List.range h.objs.size).filterMap fun a=>if a=L∨a=d then none else (h.get? a).map fun o=>(a,o)
end
end Att
namespace L2
open PySem PySem.Spec PyProof.Rows
theorem qbS:∀ {vs:List Value} {ns:List Int},IntsAre vs ns→Vals (ns.map V.int) vs
 | _,_,.nil=>.nil
 | _,_,.cons n t h=>.cons ⟨t,rfl⟩ (qbS h)
def qf2 (H:Hp):Prop:=∀ b,H b=none∨∃ o xs,H b=some (.frz o (.lst xs))
theorem law_call {P:Program} {w:World} {K:PySem.W.Frag} {mg mb:Str→Option Value} {CX:CXT} {k:Nat} {fa a:Addr} {fd:FuncData} {x:Str} {sp:Sp} {s₁:Shared} {vs:List Value} {ns:List Int}
  (KX:K.In s₁.heap) (hns:s₁.heap.Ns mainGlobals mg) (hb:s₁.heap.Ns builtinsNs mb) (hbb:∀ x:Str,x≠"__name__"→mb x=bootBuiltins x) (hlim:s₁.heap.NoLimit) (hg:s₁.gens=#[])
  (ha:s₁.heap.get? a=some { cls:=.type "list",data:=.seq vs.toArray }) (hi:IntsAre vs ns) (hl:ns.length≤sizeLine) (hr:Room k callerA)
  (F:∀ base:Heap,K.In base→base.Ns mainGlobals mg→FnOk P w K mg base CX k fa fd [x] sp) (hbind:∀ (s:Shared) (u:Value),BindsTo s fd ⟨[u],[]⟩ [(x,u)])
  (hsp:∀ H:Hp,qf2 H→SqL K H a (ns.map V.int)→sp [.ref a] H (fun v _=>v=.bl true) fun _ _ _=>False)
  (hCX:∀ H e s',CX [] H s₁ (fun _ _ _=>False) e s'→False) :
  codeAny (model P w) callerA (.call (.ref fa) ⟨[.ref a],[]⟩) (fun r s'=>r=.ok (.ret (.bool true))∧OldK s₁.heap s'.heap∧s'.os=s₁.os∧AllBare s'.gens) s₁:=by
 have rv:=qbS hi
 have lenV:=hi.length
 have core:∀ H:Hp,qf2 H→SqL K H a (ns.map V.int)→HOk P w H s₁.heap→(∀ b,H b≠none→b=a)→(H a≠none→K.lookup a=none) →
   codeAny (model P w) callerA (.call (.ref fa) ⟨[.ref a],[]⟩) (fun r s'=>r=.ok (.ret (.bool true))∧OldK s₁.heap s'.heap∧s'.os=s₁.os∧AllBare s'.gens) s₁:=by
  intro H hO hS hok hA hK
  have base_of:∀ {b:Addr} {o:Obj},s₁.heap.get? b=some o→H b=none→(qeg s₁.heap H).get? b=some o:=fun e n=>hidT_get e n
  have noA:∀ {b:Addr} {o:Obj} {es:Array DictEntry} {ep:Nat},s₁.heap.get? b=some o→o.data=.dict es ep→H b=none:=fun {b o es ep} e d=>by
   cases q:H b with
   | none=>rfl
   | some u =>
    have e':b=a:=hA b (by rw [q];simp)
    subst e'
    rw [ha] at e;cases e
    have d':Data.seq vs.toArray _=Data.dict es ep:=d
    cases d'
  have nsK:∀ {b:Addr} {m:Str→Option Value},s₁.heap.Ns b m→(qeg s₁.heap H).Ns b m:=fun {b m} ⟨o,es,ep,e,d,r⟩=>⟨o,es,ep,base_of e (noA e d),d,r⟩
  have hKb:K.In (qeg s₁.heap H):=fun b o e=>base_of (KX b o e) (by
   cases q:H b with
   | none=>rfl
   | some u =>
    have e':b=a:=hA b (by rw [q];simp)
    subst e'
    rw [hK (by rw [q];simp)] at e;cases e)
  have hM:Mod K mg (qeg s₁.heap H):=⟨hKb,nsK hns,⟨mb,nsK hb,hbb⟩,let ⟨mc,h1,h2⟩:=hlim;⟨mc,nsK h1,h2⟩⟩
  have e0:Env0 P w K mg (qeg s₁.heap H) callerA [] s₁ H:=⟨rfl,hM,fun b o e=>of_hidT e,Nat.le_of_eq (hidT_size _ _),trivial,fun b hb=>absurd (show b∈([]:List Addr) from hb) (by simp),hok,.of_eq hg⟩
  refine codeAny_mono ((F _ hKb (nsK hns)).run callerA [] s₁ H ⟨[.ref a],[]⟩ [.ref a] [.ref a] _ _ hr e0 (hbind s₁ (.ref a)) (.cons rfl .nil) (hsp H hO hS)) fun r s' h=>?_
  cases r with
  | error e=>exact (hCX H e s' h).elim
  | ok fl =>
   cases fl with
   | next=>exact False.elim h
   | brk=>exact False.elim h
   | cont=>exact False.elim h
   | ret u =>
    obtain ⟨v,H',os,bare,un,hok',r',q⟩:=h
    have q':v=.bl true:=q
    subst q'
    obtain rfl:u=Value.bool true:=r'
    refine ⟨rfl,OldK.of_keep fun b o e=>?_,os,bare⟩
    cases q:H b with
    | none=>exact un.keep b o e q (by intro z;exact absurd (show b∈([]:List Addr) from z) (by simp)) (by simp)
    | some u =>
     rcases hO b with z | ⟨ob,xs,z⟩
     ·rw [q] at z;cases z
     ·have z2:=un.frzs b ob _ z
      obtain ⟨e1,_⟩:=hok b _ z
      obtain ⟨e2,_⟩:=hok' b _ z2
      rw [e] at e1;cases e1
      exact e2
 cases hk:K.lookup a with
 | some o =>
  have e:=KX a o hk
  rw [ha] at e
  cases e
  refine core (fun _=>none) (fun _=>.inl rfl) (.inr ⟨_,vs.toArray,_,hk,rfl,rfl,rfl,by rw [List.size_toArray,lenV];exact hl,by simpa using rv⟩) (fun b u z=>by have z':(none:Option HO)=some u:=z;cases z') (fun b z=>absurd rfl z) fun z=>absurd rfl z
 | none =>
  refine core (fun b=>if b=a then some (.frz { cls:=.type "list",data:=.seq vs.toArray } (.lst (ns.map V.int))) else none) (fun b=>?_) (.inl (.inr ⟨{ cls:=.type "list",data:=.seq vs.toArray },if_pos rfl⟩)) (fun b u z=>?_) (fun b z=>?_) fun _=>hk
  ·by_cases hb:b=a
   ·exact .inr ⟨_,_,if_pos hb⟩
   ·exact .inl (if_neg hb)
  ·by_cases hb:b=a
   ·have z':=(if_pos hb).symm.trans z
    cases z'
    subst hb
    exact ⟨ha,by rw [List.length_map];exact hl,vs,_,rv,ha⟩
   ·have z':=(if_neg hb).symm.trans z
    cases z'
  ·by_cases hb:b=a
   ·exact hb
   ·exact absurd (if_neg hb) z
end L2
namespace L2
open PySem PySem.Spec PyProof.Rows
abbrev KOf {K:PySem.W.Frag} {h:Heap} (_:K.In h):PySem.W.Frag:=K
theorem walk_of {l:PySem.W.OpenLaw} {n k:Nat} {q:Program} {loose:List Str} {XP:(Str→Option Value)→Heap→Prop} {YP:World→Heap→Prop} {d:DefRec} {K:Params→PySem.W.Frag} {CX:World→CXT} {sp:World→Sp} {x:Str}
  (hn:l.most=some n) (hn2:n≤sizeLine) (hdf:d.params.defaults=[]) (hr:Room k callerA)
  (hY:∀ (w:World) (h:Heap),YP w h→(K w.params).In h)
  (F:∀ (w:World) (mg:Str→Option Value) (fa:Addr) (h:Heap),(K w.params).In h→h.Ns mainGlobals mg→mg d.name=some (.ref fa) →
   ∃ fd:FuncData,(∀ (s:Shared) (u:Value),BindsTo s fd ⟨[u],[]⟩ [(x,u)]) ∧
    ∀ base:Heap,(K w.params).In base→base.Ns mainGlobals mg→FnOk l.prog w (K w.params) mg base (CX w) k fa fd [x] (sp w))
  (hsp:∀ (w:World) (H:Hp) (a:Addr) (ns:List Int),ns.length≤n→qf2 H→SqL (K w.params) H a (ns.map V.int)→sp w [.ref a] H (fun v _=>v=.bl true) fun _ _ _=>False)
  (hCX:∀ (w:World) (H:Hp) (s:Shared) (e:Value) (s':Shared),CX w [] H s (fun _ _ _=>False) e s'→False) :
  PySem.W.WalkO q loose XP YP l.row.toRowW d [] (fun f vs=>PySem.call f vs):=by
 refine Att.attach_call hn hdf fun w s₀ s₁ mg mb fa o pm cd doc a vs ns G Y ho hd hcd hmg hobj hints hlen hg=>?_
 have KX:=hY w _ Y
 obtain ⟨fd,hb,hF⟩:=F w mg fa _ KX G.T.g hmg
 exact law_call KX G.T.g G.T.b G.T.builtins G.T.nolimit hg hobj hints (Nat.le_trans hlen hn2) hr hF hb (fun H hO hS=>hsp w H a ns hlen hO hS) fun H e s'=>hCX w H s₁ e s'
end L2
namespace L2
open PySem PySem.Spec PyProof.Rows
def ji (s:Stmt) (j:Nat):Stmt:=match s with
 | .ClassDef _ _ _ body _ _ _ _ _ _ _=>body.getD j (.Pass ⟨0,0,0,0⟩)
 | _=>.Pass ⟨0,0,0,0⟩
def qm (s:Stmt):Arguments:=match s with
 | .FunctionDef _ a _ _ _ _ _ _ _ _=>a
 | _=>{ posonlyargs:=[],args:=[],vararg:=none,kwonlyargs:=[],kw_defaults:=[],kwarg:=none,defaults:=[] }
def qj (s:Stmt):List Stmt:=match s with
 | .FunctionDef _ _ b _ _ _ _ _ _ _=>b
 | _=>[]
def qe (s:Stmt):Scope:=match s with
 | .FunctionDef _ _ _ _ _ _ sc _ _ _=>sc
 | _=>{ kind:=.function,names:=[],isGenerator:=false,isCoroutine:=false }
abbrev CX0:CXT:=fun _ _ _ _ _ _=>False
abbrev E0:XK:=fun _ _ _=>False
theorem qC {X:Cx}:zB CX0 X E0:=fun _ _ _ _ _ _ _ h=>h.elim
structure Fun (K:PySem.W.Frag) (x qual:Str) (st:Stmt) (f:Addr) (fd:FuncData):Prop where
 ex:∃ (oc:Value) (od:Option Addr) (kV doc pm:Value) (an:Option Addr) (cdv ct:Value) (osl:Array (Option Value)),
  fd=PySem.W.fnOf x qual (qm st) (qj st) (qe st) .none kV doc pm an cdv ct∧K.lookup f=some ⟨oc,od,.func fd,osl⟩∧PySem.W.codeIn K cdv qual=true
 kp:PySem.W.keepIn K (.ref f)=true
section
variable {P:Program} {w:World} {K:PySem.W.Frag} {mg:Str→Option Value} {base:Heap}
theorem Fun.ok {x qual:Str} {st:Stmt} {f:Addr} {fd:FuncData} {N ps:List Str} {k:Nat} {sp:Sp} (F:Fun K x qual st f fd) (S:FnScope N ps (qe st)) (len:∀ vs H Q E,sp vs H Q E→vs.length=ps.length)
  (hbody:∀ (cdv:Value) (A:Around) (outer:List Env) (s:Shared) (H:Hp) (vs:List V) (Q:VK) (E:XK),Room k (A.deeper (envOfC qual (qe st) s.heap.objs.size f cdv))→sp vs H Q E →
   ∃ t,PSs (qeo CX0 P w K mg base N qual (qe st) f cdv A outer s H E).nox (qj st) t∧t { nx:=fun _ H'=>Q .non H',rt:=Q } (start N vs) H):FnOk P w K mg base CX0 (k + 1) f fd ps sp:=by
 obtain ⟨oc,od,kV,doc,pm,an,cdv,ct,osl,rfl,lk,hcd⟩:=F.ex
 refine qfk lk hcd S len fun A outer s H vs Q E hr hsp=>?_
 obtain ⟨t,h,q⟩:=hbody cdv A outer s H vs Q E hr hsp
 exact ⟨t,h.nox,q⟩
theorem Fun.binds {x qual:Str} {st:Stmt} {f:Addr} {fd:FuncData} {ps:List Str} (F:Fun K x qual st f fd)
  (h:∀ (kV doc pm:Value) (an:Option Addr) (cdv ct:Value) (us:List Value),us.length=ps.length→bindArgs (PySem.W.fnOf x qual (qm st) (qj st) (qe st) .none kV doc pm an cdv ct) ⟨us,[]⟩=pure (ps.zip us)):Binds K fd ps []:=by
 obtain ⟨oc,od,kV,doc,pm,an,cdv,ct,osl,rfl,lk,hcd⟩:=F.ex
 exact .all (h kV doc pm an cdv ct)
theorem fun_mk {x qual:Str} {st:Stmt} {f:Addr} {oc:Value} {od an:Option Addr} {osl:Array (Option Value)} {kV doc pm cdv ct:Value} (l:K.lookup f=some ⟨oc,od,.func (PySem.W.fnOf x qual (qm st) (qj st) (qe st) .none kV doc pm an cdv ct),osl⟩)
  (c:PySem.W.codeIn K cdv qual=true) (k:PySem.W.keepIn K (.ref f)=true):Fun K x qual st f (PySem.W.fnOf x qual (qm st) (qj st) (qe st) .none kV doc pm an cdv ct):=⟨⟨oc,od,kV,doc,pm,an,cdv,ct,osl,rfl,l,c⟩,k⟩
end
theorem qh {n:Nat} (h:n≤1000):n < sizeLine:=Nat.lt_of_le_of_lt h (by decide)
section
variable {X:Cx}
theorem pv (i:Nat) {x:Str} {pos:Pos} (hN:X.N[i]?=some x:=by rfl) (hv:Vis X.env.scope x:=by first | exact Or.inl rfl | exact Or.inr (Or.inl rfl) | exact Or.inr (Or.inr rfl)) (hd:(x==("__debug__":Str))=false:=by decide)
  (hcd:(x==("__classdict__":Str))=false:=by decide):PE X (.Name x pos) (qfX i):=pe_var hN hv hd hcd
theorem call_lenD:zm X (.builtin "len") (fun xs H Q=>∃ a kvs,xs=[V.ref a]∧H a=some (.dK kvs)∧Q (.int kvs.length) H):=by
 intro pins s σ H xs us Q I r h
 obtain ⟨a,kvs,rfl,ha,q⟩:=h
 obtain ⟨u,rfl,ru⟩:=qaH r
 cases ru
 exact d_len I (.inl ha) fun t s' I'=>⟨.int kvs.length,H,I',⟨t,rfl⟩,q⟩
end
theorem qcg {A B:Prop} (h:A):if true=true then A else B:=by
 rw [if_pos rfl]
 exact h
theorem jk {c A B:Prop} [Decidable c] (h1:c→A) (h2:¬ c→B):if c then A else B:=by
 by_cases h:c
 ·rw [if_pos h]
  exact h1 h
 ·rw [if_neg h]
  exact h2 h
def Same (H H':Hp):Prop:=∀ b o,H b=some o→H' b=some o
theorem Same.refl (H:Hp):Same H H:=fun _ _ h=>h
theorem Same.trans {H H1 H2:Hp} (a:Same H H1) (b:Same H1 H2):Same H H2:=fun c o h=>b c o (a c o h)
theorem Same.free {H H':Hp} (e:Same H H') {l:Addr} (h:H' l=Option.none):H l=Option.none:=by
 cases q:H l with
 | none=>rfl
 | some o =>
  rw [e l o q] at h
  cases h
theorem Same.seq {K:PySem.W.Frag} {H H':Hp} {a:Addr} {xs:List V} (e:Same H H') (h:SqL K H a xs):SqL K H' a xs:=by
 rcases h with (h | ⟨o,h⟩) | h
 ·exact .inl (.inl (e _ _ h))
 ·exact .inl (.inr ⟨o,e _ _ h⟩)
 ·exact .inr h
section
variable {κ:Type} [DecidableEq κ]
end
end L2
set_option maxHeartbeats 4000000
namespace L2
open PySem PySem.Spec PyProof.Rows
section
variable {prog:Program} {w:World} {A:Around} {R:Result→Shared→Prop} {s:Shared}
theorem compLoop_own {elt target iter:Expr} {ifs:List Expr} {scope:Scope} {pos:Pos} {it acc:Value} {env:Env} (I:Nat→Shared→Prop)
  (turn:∀ n s,I n s→wpAny (model prog w) A (pyNext it) (fun r s1=>match r with
   | none=>R (.ok .next) s1
   | some v=>wpAny (model prog w) A (letOwnedTupleGo target it v) (fun _ s1'=>wpAny (model prog w) A (assign target env v) (fun _ s2 =>
     wpAny (model prog w) A (forIn ifs true fun c r=>if r=true then do let ok ← isTrue c env (eval c env);pure (ForInStep.yield ok) else pure (ForInStep.yield r)) (fun ok s3 =>
      if ok=true then wpAny (model prog w) A (eval elt env) (fun x s4 =>
       wpAny (model prog w) A (call (.builtin "list.append") [acc,x]) (fun _ s5=>∃ m,m < n∧I m s5) (fun _ _=>False) s4) (fun _ _=>False) s3
      else ∃ m,m < n∧I m s3) (fun _ _=>False) s2) (fun _ _=>False) s1') (fun _ _=>False) s1) (fun _ _=>False) s)
  (n:Nat) (h:I n s) :
  codeAny (model prog w) A (.compLoop (.ListComp elt [⟨target,iter,ifs,0⟩] scope pos) 0 it acc env) R s:=by
 refine codeAny_loop rfl I (fun n s hI=>?_) n h
 show wpAny _ A ((compTurn (.ListComp elt [⟨target,iter,ifs,0⟩] scope pos) 0 it acc env).onRaise (fun x=>do noteFrame x env;theTreesLotGoes x)) _ _ s
 refine wpAny_noted ?_
 rw [compTurn_list]
 refine wpAny_bind (wpAny_standAt (wpAny_bind (wpAny_mono (turn n s hI) (fun r s1 h1=>?_) fun _ _ h'=>h'.elim)))
 cases r with
 | none=>exact wpAny_pure h1
 | some v =>
  refine wpAny_bind (wpAny_mono h1 (fun _ s1' h1'=>?_) fun _ _ h'=>h'.elim)
  refine wpAny_bind (wpAny_mono h1' (fun _ s2 h2=>wpAny_bind (wpAny_mono h2 (fun ok s3 h3=>?_) fun _ _ h'=>h'.elim)) fun _ _ h'=>h'.elim)
  cases ok with
  | false=>exact wpAny_pure ⟨rfl,h3⟩
  | true =>
   exact wpAny_bind (wpAny_bind (wpAny_mono h3 (fun x s4 h4=>wpAny_bind (wpAny_mono h4 (fun _ s5 h5=>wpAny_pure (wpAny_pure ⟨rfl,h5⟩)) fun _ _ h'=>h'.elim)) fun _ _ h'=>h'.elim))
end
def qN (env:Env):List (Str×NameKind)→List (Str×Addr)→List (Str×Addr)
 | [],acc=>acc
 | (n,k)::r,acc=>qN env r (if (k==.free)=true then (n,(env.cells.lookup n).getD 0)::acc else acc)
theorem zn {env:Env}:∀ {names:List (Str×NameKind)} {acc:List (Str×Addr)} {x:Str} {c:Addr},(qN env names acc).lookup x=some c →
  ((x,NameKind.free)∈names∧c=(env.cells.lookup x).getD 0)∨acc.lookup x=some c
 | [],_,_,_,h=>.inr h
 | (n,k)::r,acc,x,c,h=>by
  unfold qN at h
  rcases zn h with ⟨h1,h2⟩ | h1
  ·exact .inl ⟨List.mem_cons_of_mem _ h1,h2⟩
  ·by_cases hk:(k==NameKind.free)=true
   ·rw [if_pos hk,List.lookup_cons] at h1
    cases hx:x==n with
    | true =>
     rw [hx] at h1
     have e:x=n:=beq_iff_eq.mp hx
     have e2:k=.free:=beq_iff_eq.mp hk
     subst e e2
     exact .inl ⟨List.mem_cons_self,(Option.some.inj h1).symm⟩
    | false =>
     rw [hx] at h1
     exact .inr h1
   ·rw [if_neg hk] at h1
    exact .inr h1
theorem qaf {env:Env}:∀ {names:List (Str×NameKind)} {acc:List (Str×Addr)} {x:Str},(∃ c,acc.lookup x=some c)→∃ c,(qN env names acc).lookup x=some c
 | [],_,_,h=>h
 | (n,k)::r,acc,x,h=>by
  unfold qN
  apply qaf
  by_cases hk:(k==NameKind.free)=true
  ·rw [if_pos hk,List.lookup_cons]
   cases hx:x==n with
   | true=>exact ⟨_,rfl⟩
   | false=>exact h
  ·rw [if_neg hk]
   exact h
theorem zo {env:Env}:∀ {names:List (Str×NameKind)} {acc:List (Str×Addr)} {x:Str},(x,NameKind.free)∈names→∃ c,(qN env names acc).lookup x=some c
 | [],_,_,h=>by cases h
 | (n,k)::r,acc,x,h=>by
  unfold qN
  rcases List.mem_cons.mp h with e | e
  ·cases e
   apply qaf
   rw [show (NameKind.free==NameKind.free)=true from rfl,if_pos rfl,List.lookup_cons,beq_self_eq_true]
   exact ⟨_,rfl⟩
  ·exact zo e
theorem qag {scope:Scope} {env:Env} (h:∀ n,(n,NameKind.free)∈scope.names→∃ c,env.cells.lookup n=some c):closureFor scope env=pure (qN env scope.names []):=by
 have key:∀ (names:List (Str×NameKind)) (acc:List (Str×Addr)),(∀ n,(n,NameKind.free)∈names→∃ c,env.cells.lookup n=some c) →
   (forIn names acc (fun (x:Str×NameKind) (r:List (Str×Addr))=>(if (x.2==NameKind.free)=true then (cellOf env x.1>>=fun c=>pure (ForInStep.yield ((x.1,c)::r))) else pure (ForInStep.yield r):Sem (ForInStep (List (Str×Addr))))))=(pure (qN env names acc):Sem (List (Str×Addr))):=by
  intro names
  induction names with
  | nil=>intro acc _;rfl
  | cons x r ih =>
   intro acc hn
   obtain ⟨n,k⟩:=x
   rw [List.forIn_cons]
   unfold qN
   by_cases hk:(k==NameKind.free)=true
   ·have e2:k=.free:=beq_iff_eq.mp hk
    subst e2
    obtain ⟨c,hc⟩:=hn n List.mem_cons_self
    have e3:cellOf env n=pure c:=by unfold cellOf;rw [hc]
    simp only [hk,if_true,e3,hc,Option.getD_some]
    exact ih _ fun m hm=>hn m (List.mem_cons_of_mem _ hm)
   ·simp only [hk,if_false]
    exact ih _ fun m hm=>hn m (List.mem_cons_of_mem _ hm)
 have e:=key scope.names [] h
 unfold closureFor
 exact Eq.trans (congrArg (fun m=>m>>=pure) e) rfl
@[reducible] def Cx.comp (X:Cx) (N:List Str) (scope:Scope) (C:Addr) (s0:Shared) (H0:Hp) (ex:List Addr):Cx where
 prog:=X.prog
 w:=X.w
 K:=X.K
 mg:=X.mg
 base:=X.base
 A:=X.A
 N:=N
 s₀:=s0
 H₀:=H0
 env:=compEnvC scope (qN X.env scope.names []) C X.env
 outer:=X.stack
 stack:=X.stack
 ex:=ex
 fn:=fun _=>false
 calm:=X.calm
 pn:=[]
 xe:=fun _ _=>False
structure CompOk (sc scope:Scope):Prop where
 kind:scope.kind=.function
 nocell:∀ y∈scope.names,y.2≠.cell
 loc:∀ y∈scope.names,y.2=.local→scope.names.lookup y.1=some .local
 free:∀ y∈scope.names,y.2=.free→sc.names.lookup y.1=some .cell∨sc.names.lookup y.1=some .free
 once:∀ y∈scope.names,y.2=.free→scope.names.lookup y.1=some .free
def qbT (sc scope:Scope):Bool:=decide (scope.kind=.function)&&scope.names.all fun y=>match y.2 with
 | .local=>scope.names.lookup y.1==some .local
 | .free=>(sc.names.lookup y.1==some .cell||sc.names.lookup y.1==some .free)&&scope.names.lookup y.1==some .free
 | .cell=>false
 | _=>true
theorem qcU {sc scope:Scope} (h:qbT sc scope=true):CompOk sc scope:=by
 unfold qbT at h
 rw [Bool.and_eq_true] at h
 have ha:=List.all_eq_true.mp h.2
 refine ⟨of_decide_eq_true h.1,fun y hy e=>?_,fun y hy e=>?_,fun y hy e=>?_,fun y hy e=>?_⟩
 ·have:=ha y hy
  rw [e] at this
  cases this
 ·have:=ha y hy
  rw [e] at this
  exact beq_iff_eq.mp this
 ·have:=ha y hy
  rw [e,Bool.and_eq_true,Bool.or_eq_true] at this
  exact this.1.imp beq_iff_eq.mp beq_iff_eq.mp
 ·have:=ha y hy
  rw [e,Bool.and_eq_true] at this
  exact beq_iff_eq.mp this.2
def qfP (nl:Nat) (ixs:List Nat) (N XN:List Str) (names:List (Str×NameKind)):Bool:=(List.range ixs.length).all fun k=>match ixs[k]?,N[nl + k]? with
 | some j,some x=>XN[j]?==some x&&names.any fun y=>y.1==x&&y.2==.free
 | _,_=>true
theorem qdN {nl:Nat} {ixs:List Nat} {N XN:List Str} {names:List (Str×NameKind)} (h:qfP nl ixs N XN names=true) (k j:Nat) (x:Str) (h1:ixs[k]?=some j) (h2:N[nl + k]?=some x):XN[j]?=some x∧(x,NameKind.free)∈names:=by
 have hk:k < ixs.length:=(List.getElem?_eq_some_iff.mp h1).1
 have:=List.all_eq_true.mp h k (List.mem_range.mpr hk)
 rw [h1,h2] at this
 simp only [Bool.and_eq_true] at this
 refine ⟨beq_iff_eq.mp this.1,?_⟩
 obtain ⟨⟨n,kd⟩,hy,e⟩:=List.any_eq_true.mp this.2
 rw [Bool.and_eq_true] at e
 have e1:n=x:=beq_iff_eq.mp e.1
 have e2:kd=.free:=beq_iff_eq.mp e.2
 subst e1 e2
 exact hy
def qds (nl:Nat) (ixs:List Nat) (σ:St):St:=List.replicate nl none++ixs.map fun j=>(σ[j]?).getD none
theorem capS_len (nl:Nat) (ixs:List Nat) (σ:St):(qds nl ixs σ).length=nl + ixs.length:=by
 unfold qds;rw [List.length_append,List.length_replicate,List.length_map]
theorem qcV {nl:Nat} {ixs:List Nat} {σ:St} {i:Nat} {v:V} (h:(qds nl ixs σ)[i]?=some (some v)):nl≤i∧∃ j,ixs[i - nl]?=some j∧σ[j]?=some (some v):=by
 unfold qds at h
 by_cases hi:i < nl
 ·rw [List.getElem?_append_left (by rw [List.length_replicate];exact hi),List.getElem?_replicate] at h
  split at h<;>cases h
 ·rw [List.getElem?_append_right (by rw [List.length_replicate];omega),List.length_replicate,List.getElem?_map] at h
  refine ⟨by omega,?_⟩
  cases e:ixs[i - nl]? with
  | none=>rw [e] at h;cases h
  | some j =>
   rw [e] at h
   have h':(σ[j]?).getD none=some v:=Option.some.inj h
   cases q:σ[j]? with
   | none=>rw [q] at h';cases h'
   | some u =>
    rw [q] at h'
    exact ⟨j,rfl,by rw [q];exact congrArg some h'⟩
def qei (env:Env) (y:Str×NameKind):Str×NameKind:=if (y.2==NameKind.free&&env.scope.kind==.function&&env.kindOf y.1==some .cell)=true then (y.1,NameKind.cell) else (y.1,y.2)
theorem relF_fst (env:Env) (y:Str×NameKind):(qei env y).1=y.1:=by unfold qei;split<;>rfl
theorem relF_snd (env:Env) (y:Str×NameKind):(qei env y).2=y.2∨((qei env y).2=.cell∧y.2=.free):=by
 unfold qei
 split
 ·rename_i h
  rw [Bool.and_eq_true,Bool.and_eq_true] at h
  exact .inr ⟨rfl,beq_iff_eq.mp h.1.1⟩
 ·exact .inl rfl
theorem zb {env:Env}:∀ {names:List (Str×NameKind)} {x:Str} {k:NameKind},(names.map (qei env)).lookup x=some k→∃ k0,names.lookup x=some k0∧(x,k0)∈names∧(k=k0∨(k=.cell∧k0=.free))
 | [],_,_,h=>by cases h
 | (n,k1)::r,x,k,h=>by
  rw [List.map_cons,show qei env (n,k1)=((qei env (n,k1)).1,(qei env (n,k1)).2) from rfl,List.lookup_cons,relF_fst] at h
  rw [List.lookup_cons]
  cases hx:x==n with
  | true =>
   have e:x=n:=beq_iff_eq.mp hx
   subst e
   have hx':(x==(x,k1).1)=true:=hx
   rw [hx'] at h
   have h':=Option.some.inj h
   refine ⟨k1,rfl,List.mem_cons_self,?_⟩
   rcases relF_snd env (x,k1) with z | ⟨z1,z2⟩
   ·exact .inl (h'.symm.trans z)
   ·exact .inr ⟨h'.symm.trans z1,z2⟩
  | false =>
   have hx':(x==(n,k1).1)=false:=hx
   rw [hx'] at h
   obtain ⟨k0,e1,e2,e3⟩:=zb h
   exact ⟨k0,e1,List.mem_cons_of_mem _ e2,e3⟩
section
variable {X:Cx} {pins:List (Addr×Obj)} {σ:St} {H:Hp} {s:Shared}
theorem comp_free_of {scope:Scope} {x:Str} (O:CompOk X.env.scope scope) {C:Addr} {cl:List (Str×Addr)} (h:(compEnvC scope cl C X.env).kindOf x=some .cell∨(compEnvC scope cl C X.env).kindOf x=some .free):(x,NameKind.free)∈scope.names:=by
 rcases h with h | h
 ·obtain ⟨k0,_,hm,e | ⟨_,e⟩⟩:=zb (env:=X.env) (names:=scope.names) h
  ·exact absurd e.symm (O.nocell _ hm)
  ·rw [e] at hm
   exact hm
 ·obtain ⟨k0,_,hm,e | ⟨e,_⟩⟩:=zb (env:=X.env) (names:=scope.names) h
  ·rw [← e] at hm
   exact hm
  ·cases e
theorem Inv.comp {N:List Str} {scope:Scope} {nl:Nat} {ixs:List Nat} {C D:Addr} {fp:List Addr} {ob:Obj} {h1:Heap} {tk:Nat} (I:Inv X pins σ H s) (O:CompOk X.env.scope scope)
  (hN:N.length=nl + ixs.length) (hcap:∀ (k j:Nat) (x:Str),ixs[k]?=some j→N[nl + k]?=some x→X.N[j]?=some x∧(x,NameKind.free)∈scope.names)
  (hf:∀ b∈fp,qco X pins H b) (hfl:∀ b∈fp,b < s.heap.objs.size) (hC:s.heap.objs.size≤C) (hD:s.heap.objs.size≤D) (hDC:D≠C) (hns:h1.Ns C fun _=>none) (k:∀ b o,s.heap.get? b=some o→h1.get? b=some o)
  (hob:h1.get? D=some ob) (hcl:∀ v,ob.data≠.cell v):Inv (X.comp N scope C s H fp) [(D,ob)] (qds nl ixs σ) H { s with heap:=h1,toks:=tk }:=by
 have cells:∀ x c,(qN X.env scope.names []).lookup x=some c→X.env.cells.lookup x=some c∧(x,NameKind.free)∈scope.names:=fun x c h=>by
  rcases zn h with ⟨h1,h2⟩ | h1
  ·obtain ⟨c',hc'⟩:=I.ok.has x (by
    rcases O.free _ h1 rfl with z | z
    ·exact .inl z
    ·exact .inr z)
   rw [hc'] at h2
   exact ⟨by rw [hc',h2];rfl,h1⟩
  ·cases h1
 refine ⟨⟨I.ok.mod,O.kind,I.ok.glob,I.ok.blt,hC,fun x y c h1 h2=>I.ok.inj x y c (cells x c h1).1 (cells y c h2).1,fun x hx=>zo (comp_free_of O hx),fun x c z _=>(by cases z),I.ok.hd,I.ok.frames,.inl rfl,
   fun b hb=>⟨Nat.ne_of_lt (Nat.lt_of_lt_of_le (hfl b hb) hC),fun x c e=>(hf b hb).2.2.2.2.1 x c (cells x c e).1⟩,I.bs,Nat.le_trans I.ok.bsz I.sz,fun b o e hb=>?_,fun b hb z=>?_,I.stack,I.stkFree⟩,
  rfl,I.bare,Un.kept k,⟨_,hns,fun i x v e1 e2 e3=>?_⟩,fun x c e=>?_,I.hok.fresh hC,fun x c e=>I.freeC x c (cells x c e).1,fun p hp=>?_,I.hok.kept k,?_⟩
 ·rcases (hf b hb).2.2.2.1 with z | z
  ·exact I.ok.noex b o e z
  ·have:=(I.ok.bs b o e).1
   exact absurd (Nat.lt_of_lt_of_le (Heap.lt_size this) z) (Nat.lt_irrefl _)
 ·rcases List.mem_cons.mp (I.stkSub b z) with e | e
  ·exact (hf b hb).2.1 e
  ·exact (hf b hb).2.2.1 e
 ·obtain ⟨hi,j,hj,hv⟩:=qcV e2
  obtain ⟨hx,hfr⟩:=hcap (i - nl) j x hj (by rw [Nat.add_sub_cancel' hi];exact e1)
  obtain ⟨m,hn,hl⟩:=I.loc
  have hk:=O.free _ hfr rfl
  obtain ⟨u,ru,lk⟩:=hl j x v hx hv (by
   rcases hk with z | z
   ·exact .inr (.inl z)
   ·exact .inr (.inr z))
  refine ⟨u,ru,?_⟩
  rcases lk with ⟨hk2,_⟩ | ⟨_,c,hc,hcell⟩
  ·have hk2':X.env.scope.names.lookup x=some .local:=hk2
   rcases hk with z | z<;>· rw [z] at hk2';cases hk2'
  ·obtain ⟨c',hc'⟩:=zo (env:=X.env) (acc:=[]) hfr
   have e:c'=c:=by
    have:=(cells x c' hc').1
    rw [hc] at this
    exact (Option.some.inj this).symm
   subst e
   refine .inr ⟨?_,c',hc',?_⟩
   ·rcases e3 with z | z | z
    ·obtain ⟨k0,z3,_,e | ⟨e,_⟩⟩:=zb (env:=X.env) (names:=scope.names) z
     ·rw [O.once _ hfr rfl] at z3
      cases z3
      cases e
     ·cases e
    ·exact .inl z
    ·exact .inr z
   ·obtain ⟨o,ho,hd⟩:=hcell
    exact ⟨o,k _ _ ho,hd⟩
 ·obtain ⟨v,o,ho,hd⟩:=I.cell x c (cells x c e).1
  exact ⟨v,o,k _ _ ho,hd⟩
 ·have e:p=(D,ob):=by simpa using hp
  subst e
  refine ⟨hob,I.hok.fresh hD,hDC,fun z=>?_,hcl⟩
  rcases List.mem_cons.mp (I.stkSub D z) with e | e
  ·exact absurd (show X.env.locals < D from Nat.lt_of_lt_of_le I.lt hD) (by rw [e];exact Nat.lt_irrefl _)
  ·exact I.nofs hD e
 ·show (qds nl ixs σ).length=N.length
  rw [capS_len,hN]
theorem Inv.compBack {N:List Str} {scope:Scope} {C D:Addr} {fp:List Addr} {its:List Value} {n:Nat} {s':Shared} {H':Hp} {σ':St} {ys:List V} (I:Inv X pins σ H s) (hf:∀ b∈fp,qco X pins H b) (hC:s.heap.objs.size≤C) (hD:s.heap.objs.size≤D)
  (J:Inv (X.comp N scope C s H fp) [(D,{ cls:=.type "list",data:=.seq its.toArray n })] σ' H' s') (hv:Vals ys its) (hz:ys.length≤sizeLine):Inv X pins σ (upd H' D (.lst ys)) s':=by
 obtain ⟨pD,nD,neD,_,_⟩:=J.pin (D,{ cls:=.type "list",data:=.seq its.toArray n }) (List.mem_append_right _ (List.mem_singleton.mpr rfl))
 have ltD:∀ b o,s.heap.get? b=some o→b≠D:=fun b o e=>Nat.ne_of_lt (Nat.lt_of_lt_of_le (Heap.lt_size e) hD)
 have J0:=J.base
 refine I.call' (ch:=fp) J.os ⟨J0.keep,J0.slot,fun b o e n hx=>?_,J0.there,fun b xs e=>?_,fun b o u e=>?_,fun b ps e=>?_⟩ (fun b u e=>?_) J.bare fun b hb=>⟨(hf b hb).2.2.2.1,(hf b hb).2.1,(hf b hb).2.2.2.2.1,(hf b hb).2.2.2.2.2⟩
 ·rw [qi (ltD b o e)]
  exact J0.free b o e n hx
 ·have q:=J0.tups b xs e
  rw [qi (qx q nD)]
  exact q
 ·have q:=J0.frzs b o u e
  rw [qi (qx q nD)]
  exact q
 ·obtain ⟨more,q⟩:=J0.tbls b ps e
  exact ⟨more,by rw [qi (qx q nD)];exact q⟩
 ·by_cases hb:b=D
  ·subst hb
   rw [qb] at e
   cases e
   exact ⟨hz,its,n,hv,pD⟩
  ·rw [qi hb] at e
   exact (J.hok b u e).stay (fun c v _ q=>q) (fun c q=>by rw [qi (qx q nD)];exact q) fun c xs q=>by rw [qi (qx q nD)];exact q
end
def qgq:TT:=fun _ H Q=>Q true H
def qej (wi:TI) (g:TG) (tc:TT) (te:TE) (nl:Nat) (ixs:List Nat):TE:=fun σ H Q=>wi σ H fun J H1 =>
 ∃ W:Nat→Nat→List V→Hp→Prop,(∃ m,W 0 m [] H1)∧∀ i m ys H,W i m ys H →
  (J.stop i H∧ys.length≤sizeLine∧∀ p,H p=none→Q (.ref p) (upd H p (.lst ys))) ∨
  (J.go i H∧∃ M:List V→Hp→Prop,(∀ ys' H',M ys' H'→∃ m',m' < m∧W (i + 1) m' ys' H')∧∀ x H',J.yld i H x H'→g x (qds nl ixs σ) H' fun σ2 H2=>tc σ2 H2 fun b H3 =>
   if b=true then te σ2 H3 fun v H4=>ys.length < sizeLine∧M (ys++[v]) H4 else M ys H3)
def qdO (nl:Nat) (g:TG):Prop:=∀ x σ H Q,g x σ H Q→g x σ H fun σ2 H2=>Q σ2 H2∧σ2.length=σ.length∧∀ i,nl≤i→σ2[i]?=σ[i]?
theorem jg {nl i:Nat} (h:i < nl:=by decide):qdO nl (qcm i):=fun x σ H Q q=>⟨q,List.length_set ..,fun j hj=>List.getElem?_set_ne (by omega)⟩
def qfa (X:Cx) (ifs:List Expr) (tc:TT):Prop:=
 ∀ (pins:List (Addr×Obj)) (s:Shared) (σ:St) (H:Hp) (Q:Bool→Hp→Prop),Inv X pins σ H s→tc σ H Q →
  wpAny (model X.prog X.w) X.A (forIn ifs true fun c r=>if r=true then do let ok ← isTrue c X.env (eval c X.env);pure (ForInStep.yield ok) else pure (ForInStep.yield r)) (TP X pins σ Q) X.xe s
theorem zp {X:Cx}:qfa X [] qgq:=fun pins s σ H Q I h=>wpAny_tests_nil ⟨H,I,h⟩
theorem jD {X:Cx} {c:Expr} {tc:TT} (h:PT X c tc):qfa X [c] tc:=fun pins s σ H Q I q=>wpAny_tests_one (h pins s σ H Q I q)
section
variable {X:Cx} {pins:List (Addr×Obj)} {σ:St} {H:Hp} {s:Shared}
theorem qbj {N:List Str} {scope:Scope} {nl:Nat} {ixs:List Nat} {fp:List Addr} {it:Addr} {tn:Nat→Heap→Prop} {J:It} {tg elt iter:Expr} {ifs:List Expr} {pos:Pos} {g:TG} {tc:TT} {te:TE} {Q:V→Hp→Prop} {E:Value→Shared→Prop}
  {RR:Value→Addr→Result→Shared→Prop} (I:Inv X pins σ H s) (hc:X.calm=true) (O:CompOk X.env.scope scope)
  (hN:N.length=nl + ixs.length) (hcap:∀ (k j:Nat) (x:Str),ixs[k]?=some j→N[nl + k]?=some x→X.N[j]?=some x∧(x,NameKind.free)∈scope.names)
  (T:Turn X.prog X.w X.K tg J fp it tn) (st:tn 0 s.heap) (hf:∀ b∈fp,qco X pins H b)
  (hg:∀ C s0 H0 ex,PG (X.comp N scope C s0 H0 ex) tg g) (gk:qdO nl g) (hi:∀ C s0 H0 ex,qfa (X.comp N scope C s0 H0 ex) ifs tc) (he:∀ C s0 H0 ex,PE (X.comp N scope C s0 H0 ex) elt te)
  (h:∃ W:Nat→Nat→List V→Hp→Prop,(∃ m,W 0 m [] H)∧∀ i m ys H,W i m ys H →
   (J.stop i H∧ys.length≤sizeLine∧∀ p,H p=none→Q (.ref p) (upd H p (.lst ys))) ∨
   (J.go i H∧∃ M:List V→Hp→Prop,(∀ ys' H',M ys' H'→∃ m',m' < m∧W (i + 1) m' ys' H')∧∀ x H',J.yld i H x H'→g x (qds nl ixs σ) H' fun σ2 H2=>tc σ2 H2 fun b H3 =>
    if b=true then te σ2 H3 fun v H4=>ys.length < sizeLine∧M (ys++[v]) H4 else M ys H3))
  (hRR:∀ (D C:Addr) (s':Shared) (H':Hp) (σ':St) (ys:List V) (its:List Value) (n:Nat),s.heap.objs.size≤C→s.heap.objs.size≤D→Inv (X.comp N scope C s H fp) [(D,{ cls:=.type "list",data:=.seq its.toArray n })] σ' H' s'→Vals ys its→ys.length≤sizeLine →
   (∀ p,H' p=none→Q (.ref p) (upd H' p (.lst ys)))→RR (.ref D) C (.ok .next) s') :
  wpAny (model X.prog X.w) X.A (newList []) (fun acc s3=>wpAny (model X.prog X.w) X.A (newFunctionEnv scope X.env.globals (qN X.env scope.names []) [] X.env.qual none .none (some X.env)) (fun cenv s4 =>
   codeAny (model X.prog X.w) X.A (.compStart (.ListComp elt [⟨tg,iter,ifs,0⟩] scope pos) 0 (.ref it) acc { cenv with scope:=relabel scope X.env }) (RR acc cenv.locals) s4) E s3) E s:=by
 obtain ⟨W,⟨m0,w0⟩,turn⟩:=h
 refine wpAny_newObj_type (wpAny_newFunctionEnv O.nocell (by intro y hy;simp at hy) (fun h1 hns1 hsb1=>?_) O.kind)
 dsimp only at hns1 hsb1 ⊢
 generalize hH2:s.heap.push { cls:=.type "list",dict:=none,data:=.seq ([]:List Value).toArray }=H2 at hns1 hsb1 ⊢
 have hC:H2.objs.size=s.heap.objs.size + 1:=by rw [← hH2,Heap.size_push]
 have hDC:s.heap.objs.size≠H2.objs.size:=by rw [hC];exact Nat.ne_of_lt (Nat.lt_succ_self _)
 have hCle:s.heap.objs.size≤H2.objs.size:=by rw [hC];exact Nat.le_succ _
 have below:∀ b,b < s.heap.objs.size→b≠H2.objs.size∧b≠s.heap.objs.size:=fun b hb=>⟨by rw [hC];exact Nat.ne_of_lt (Nat.lt_succ_of_lt hb),Nat.ne_of_lt hb⟩
 have old:∀ b o,s.heap.get? b=some o→h1.get? b=some o:=fun b o e=>hsb1.extBut b o (below b (Heap.lt_size e)).1 (Heap.get?_push_of_some _ (hH2 ▸ Heap.get?_push_of_some _ e))
 have hacc:h1.get? s.heap.objs.size=some { cls:=.type "list",data:=.seq ([]:List Value).toArray }:=hsb1.extBut _ _ hDC (Heap.get?_push_of_some _ (hH2 ▸ Heap.get?_push_size _ rfl))
 have hfl:∀ b∈fp,b < s.heap.objs.size:=fun b hb=>by
  obtain ⟨o,ho,_⟩:=T.obj 0 _ st b hb
  exact Heap.lt_size ho
 have loop:∀ s3:Shared,s3={ s with heap:=h1,toks:=s.toks + ([]:List (Str×Value)).length } →
   codeAny (model X.prog X.w) X.A (.compLoop (.ListComp elt [⟨tg,iter,ifs,0⟩] scope pos) 0 (.ref it) (.ref s.heap.objs.size) (compEnvC scope (qN X.env scope.names []) H2.objs.size X.env)) (RR (.ref s.heap.objs.size) H2.objs.size) s3:=by
  rintro s3 rfl
  have I0:=I.comp (N:=N) (C:=H2.objs.size) (D:=s.heap.objs.size) (h1:=h1) (tk:=s.toks + ([]:List (Str×Value)).length) O hN hcap hf hfl hCle (Nat.le_refl _) hDC hns1 old hacc (fun v z=>by cases z)
  have stat:∀ {H':Hp} {σ':St} {s':Shared} {pl:List (Addr×Obj)},Inv (X.comp N scope H2.objs.size s H fp) pl σ' H' s'→(∀ p∈pl,p.1=s.heap.objs.size)→(∀ b∈fp,H' b=none)→∀ b∈fp,qco (X.comp N scope H2.objs.size s H fp) pl H' b:=fun {H' σ' s' pl} J hpl hn b hb =>
   ⟨hn b hb,(below b (hfl b hb)).1,fun z=>(by
     rcases List.mem_cons.mp (I.stkSub b z) with e | e
     ·exact (hf b hb).2.1 e
     ·exact (hf b hb).2.2.1 e),.inl hb,J.ok.exf b hb |>.2,fun p hp z=>by
    have e:=hpl p (by simpa using hp)
    rw [e] at z
    exact (below b (hfl b hb)).2 z.symm⟩
  refine compLoop_own (fun k s'=>∃ i H' ys its n,Inv (X.comp N scope H2.objs.size s H fp) [(s.heap.objs.size,{ cls:=.type "list",data:=.seq its.toArray n })] (qds nl ixs σ) H' s'∧tn i s'.heap∧(∀ b∈fp,H' b=none)∧Vals ys its∧W i k ys H') ?_ m0
   ⟨0,H,[],[],0,I0,T.keep _ _ _ st fun b _ o e=>old b o e,fun b hb=>(hf b hb).1,.nil,w0⟩
  rintro k s' ⟨i,H',ys,its,n,J1,st1,fr1,v1,w1⟩
  have one:∀ p∈[((s.heap.objs.size,{ cls:=.type "list",data:=.seq its.toArray n }):Addr×Obj)],p.1=s.heap.objs.size:=fun p hp=>by
   have e:p=_:=List.mem_singleton.mp hp
   rw [e]
  rcases turn i k ys H' w1 with ⟨stop,hz,q⟩ | ⟨go,M,hM,step⟩
  ·refine thn (T.done (X.comp N scope H2.objs.size s H fp) rfl rfl rfl hc i _ s' _ H' _ J1 (stat J1 one fr1) st1 stop) fun r s4 ⟨hr,J4⟩=>?_
   subst hr
   exact hRR _ _ s4 H' _ ys its n hCle (Nat.le_refl _) J4 v1 hz q
  ·refine thn (T.item (X.comp N scope H2.objs.size s H fp) rfl rfl rfl hc i _ s' _ H' _ J1 (stat J1 one fr1) st1 go) fun r s4 ⟨u,hr,h4⟩=>?_
   subst hr
   refine thn h4 fun _ s5 ⟨x,H5,J5,r5,y5,st5,fr5⟩=>?_
   have J5':=J5.pinned (stat J5 one fr5) (T.obj _ _ st5)
   refine thn (hg _ _ _ _ _ s5 _ H5 x u _ J5' r5 (gk _ _ _ _ (step x H5 y5))) fun _ s6 ⟨σ6,H6,J6,q6,l6,k6⟩=>?_
   refine thn (hi _ _ _ _ _ s6 σ6 H6 _ J6 q6) fun ok s7 ⟨H7,J7,q7⟩=>?_
   have again:∀ {s8:Shared} {H8:Hp} {ys':List V} {k':Nat},Inv (X.comp N scope H2.objs.size s H fp) ([((s.heap.objs.size,{ cls:=.type "list",data:=.seq its.toArray n }):Addr×Obj)]++qbG fp s5.heap) σ6 H8 s8 →
     (∀ b o,b≠s.heap.objs.size→s8.heap.get? b=some o→s8.heap.get? b=some o)→tn (i + 1) s8.heap∧∀ b∈fp,H8 b=none:=fun {s8 H8 ys' k'} J8 _=>by
    refine ⟨T.keep _ _ _ st5 fun b hb o e=>(J8.pin (b,o) (List.mem_append_right _ (List.mem_append_right _ (zK hb e)))).1,fun b hb=>?_⟩
    obtain ⟨o,e,d⟩:=T.obj _ _ st5 b hb
    exact (J8.pin (b,o) (List.mem_append_right _ (List.mem_append_right _ (zK hb e)))).2.1
   have wk:∀ (j:Nat) v,(qds nl ixs σ)[j]?=some (some v)→σ6[j]?=some (some v):=fun j v e=>by
    obtain ⟨hj,_⟩:=qcV e
    rw [k6 j hj]
    exact e
   cases ok with
   | false =>
    rw [if_neg Bool.false_ne_true] at q7 ⊢
    obtain ⟨m',hm,w7⟩:=hM _ _ q7
    obtain ⟨st7,fr7⟩:=again (ys':=ys) (k':=0) J7 (fun _ _ _ e=>e)
    exact ⟨m',hm,i + 1,H7,ys,its,n,J7.unpinned.weak l6.symm wk,st7,fr7,v1,w7⟩
   | true =>
    rw [if_pos rfl] at q7 ⊢
    refine thn (he _ _ _ _ _ s7 σ6 H7 _ J7 q7) fun y s8 ⟨v,H8,J8,r8,hlt,mq⟩=>?_
    obtain ⟨m',hm,w8⟩:=hM _ _ mq
    obtain ⟨st8,fr8⟩:=again (ys':=ys) (k':=0) J8 (fun _ _ _ e=>e)
    have J9:=J8.unpinned
    obtain ⟨pD,nD,neD,nfD,_⟩:=J9.pin (s.heap.objs.size,{ cls:=.type "list",data:=.seq its.toArray n }) (List.mem_append_right _ (List.mem_singleton.mpr rfl))
    refine wpAny_list_append_plain (hsz:=by rw [List.size_toArray,← v1.length];omega) ⟨n,pD⟩ fun h9 hl9 hs9=>?_
    obtain ⟨n9,hl9⟩:=hl9
    have e9:(its.toArray.push y)=(its++[y]).toArray:=by simp
    rw [e9] at hl9
    have Ja:Inv (X.comp N scope H2.objs.size s H fp) [] (qds nl ixs σ) H8 { s8 with heap:=h9,toks:=s8.toks }:=
     ((J9.pins_of (pins':=[]) fun p hp=>absurd hp (by simp)).turned (it:=s.heap.objs.size) (h':=h9) (t':=s8.toks) (fun b o hb e=>(hs9.2 b hb).trans e) nD neD (.inr (Nat.le_refl _))
      (fun x c e z=>by
       obtain ⟨c0,o0,h0,_⟩:=I0.cell x c e
       have:=zn e
       rcases this with ⟨hfr,hcc⟩ | hcc
       ·obtain ⟨c',hc'⟩:=I.ok.has x (by
         rcases O.free _ hfr rfl with q | q
         ·exact .inl q
         ·exact .inr q)
        rw [hc'] at hcc
        have hcc':c=c':=hcc
        obtain ⟨_,q⟩:=I.cell x c' hc'
        rw [← hcc',z] at q
        exact absurd q.lt (Nat.lt_irrefl _)
       ·cases hcc) (fun p hp=>absurd hp (by simp))).weak l6.symm wk
    refine ⟨m',hm,i + 1,H8,ys++[v],its++[y],n9,Ja.pins_of fun p hp=>?_,?_,fr8,v1.append (.cons r8 .nil),w8⟩
    ·have e:p=_:=List.mem_singleton.mp hp
     subst e
     exact ⟨hl9,nD,neD,nfD,fun v z=>by cases z⟩
    ·exact T.keep _ _ _ st8 fun b hb o e=>(hs9.2 b (below b (hfl b hb)).2).trans e
 exact codeAny_compStart_list (loop _ rfl) (T.self _ 0 _ _ _ (T.keep _ _ _ st fun b _ o e=>old b o e) (loop _ rfl))
end
section
variable {X:Cx} {tg elt iter:Expr} {ifs:List Expr} {scope:Scope} {pos:Pos} {N:List Str} {nl:Nat} {ixs:List Nat} {wi:TI} {g:TG} {tc:TT} {te:TE}
theorem j2 {sc:Scope} {XN:List Str} (N:List Str) (nl:Nat) (ixs:List Nat) (hsc:X.env.scope=sc) (hXN:X.N=XN) (hc:X.calm=true) (O':qbT sc scope=true) (hN:N.length=nl + ixs.length) (hcap':qfP nl ixs N XN scope.names=true)
  (hi:PI X tg iter wi) (hg:∀ C s0 H0 ex,PG (X.comp N scope C s0 H0 ex) tg g) (gk:qdO nl g) (ht:∀ C s0 H0 ex,qfa (X.comp N scope C s0 H0 ex) ifs tc) (he:∀ C s0 H0 ex,PE (X.comp N scope C s0 H0 ex) elt te)
  (hs:∀ x,foldedSetIterable iter X.env x=pure x:=by intro _;rfl):PE X (.ListComp elt [⟨tg,iter,ifs,0⟩] scope pos) (qej wi g tc te nl ixs):=by
 intro pins s σ H Q I h
 subst hsc hXN
 have O:=qcU O'
 have hcap:=qdN hcap'
 rw [eval_ListComp]
 have hcl:=qag (scope:=scope) (env:=X.env) fun n hn=>I.ok.has n (by
  rcases O.free _ hn rfl with z | z
  ·exact .inl z
  ·exact .inr z)
 refine wpAny_comprehension_free (use:=none) rfl hs hcl O.kind O.loc (thn (hi pins s σ H _ I h) fun v s1 h1=>thn h1 fun itv s2 h2=>?_)
 obtain ⟨it,fp,tn,J,H2,e,I2,T,st2,f2,hW⟩:=h2
 subst e
 refine qbj (Q:=Q) (RR:=fun acc C=>compPost (model X.prog X.w) X.A X.xe none (EP X pins σ Q) acc C) I2 hc O hN hcap T st2 f2 hg gk ht he hW ?_
 intro D C s' H' σ' ys its n hC hD J' hv hz q
 obtain ⟨m,hn,_⟩:=id J'.loc
 have B:=I2.compBack f2 hC hD J' hv hz
 obtain ⟨_,nD,neD,_,_⟩:=J'.pin (D,{ cls:=.type "list",data:=.seq its.toArray n }) (List.mem_append_right _ (List.mem_singleton.mpr rfl))
 refine ⟨m,hn,fun h' sb=>⟨.ref D,_,?_,rfl,q D nD⟩⟩
 refine B.turned (it:=C) (h':=h') (t':=s'.toks) (fun b o hb e=>(sb.2 b hb).trans e) ((qi (H:=H') (a:=D) (b:=C) (o:=.lst ys) (Ne.symm neD)).trans J'.free) (Nat.ne_of_gt (Nat.lt_of_lt_of_le I2.lt hC)) (.inr (Nat.le_trans I2.sz hC)) (fun x c e z=>?_) (fun p hp z=>?_)
 ·obtain ⟨_,q⟩:=I2.cell x c e
  exact absurd (Nat.lt_of_lt_of_le q.lt (by rw [z];exact hC)) (Nat.lt_irrefl _)
 ·exact absurd (Nat.lt_of_lt_of_le (Heap.lt_size (I2.pin p hp).1) (by rw [z];exact hC)) (Nat.lt_irrefl _)
theorem zV {i:Nat} {y:Str} {py spos:Pos} {sc:Scope} {XN:List Str} (N:List Str) (nl:Nat) (ixs:List Nat) (hsc:X.env.scope=sc) (hXN':X.N=XN) (hc:X.calm=true) (O':qbT sc scope=true) (hN:N.length=nl + ixs.length) (hcap':qfP nl ixs N XN scope.names=true)
  (hXN:X.N.Nodup) (hi':X.N[i]?=some y) (hy:X.env.scope.names.lookup y=some .local)
  (hi:PI X tg iter wi) (hg:∀ C s0 H0 ex,PG (X.comp N scope C s0 H0 ex) tg g) (gk:qdO nl g) (ht:∀ C s0 H0 ex,qfa (X.comp N scope C s0 H0 ex) ifs tc) (he:∀ C s0 H0 ex,PE (X.comp N scope C s0 H0 ex) elt te)
  (hsw:swapsWith (.ListComp elt [⟨tg,iter,ifs,0⟩] scope pos) (some (.Name y py)) spos.line X.env=pure true:=by rfl)
  (hs:∀ x,foldedSetIterable iter X.env x=pure x:=by intro _;rfl):PS X (.Assign [.Name y py] (.ListComp elt [⟨tg,iter,ifs,0⟩] scope pos) spos) (qfg (qej wi g tc te nl ixs) (qcm i)):=by
 intro pins s σ H D0 I h
 subst hsc hXN'
 have O:=qcU O'
 have hcap:=qdN hcap'
 have hcl:=qag (scope:=scope) (env:=X.env) fun n hn=>I.ok.has n (by
  rcases O.free _ hn rfl with z | z
  ·exact .inl z
  ·exact .inr z)
 rw [exec_Assign_Name_used _ _ _ _ hsw]
 refine wpAny_bind (wpAny_standAt (wpAny_bind ?_))
 show wpAny _ X.A (do let _ ← comprehension (.ListComp elt [⟨tg,iter,ifs,0⟩] scope pos) scope X.env _ (newList []) false (eval iter X.env) (some (assign (.Name y py) X.env))) _ _ s
 refine wpAny_bind (wpAny_mono (wpAny_comprehension_free (use:=some (assign (.Name y py) X.env)) (Q:=fun _ s'=>SP X pins D0 .next s') rfl hs hcl O.kind O.loc
  (thn (hi pins s σ H _ I h) fun v s1 h1=>thn h1 fun itv s2 h2=>?_)) (fun _ s' hq=>wpAny_pure (wpAny_pure hq)) fun _ _ e=>e)
 obtain ⟨it,fp,tn,J,H2,e,I2,T,st2,f2,hW⟩:=h2
 subst e
 refine qbj (Q:=fun v H'=>qcm i v σ H' D0.nx) (RR:=fun acc C=>compPost (model X.prog X.w) X.A X.xe (some (assign (.Name y py) X.env)) (fun _ s'=>SP X pins D0 .next s') acc C) I2 hc O hN hcap T st2 f2 hg gk ht he hW ?_
 intro D C s' H' σ' ys its n hC hD J' hv hz q
 obtain ⟨m,hn,_⟩:=id J'.loc
 have B:=I2.compBack f2 hC hD J' hv hz
 obtain ⟨_,nD,neD,_,_⟩:=J'.pin (D,{ cls:=.type "list",data:=.seq its.toArray n }) (List.mem_append_right _ (List.mem_singleton.mpr rfl))
 show wpAny _ X.A (assign (.Name y py) X.env (.ref D)) _ _ _
 refine wpAny_assign_Name (qbD (i:=i) (x:=y) (v:=.ref D) B hXN hi' (.inl hy) rfl (fun s'' B' hsb=>?_) (.inr hy))
 obtain ⟨a,sa,ha⟩:=hsb
 have hCa:C≠a:=by
  rintro rfl
  rcases ha with z | z
  ·exact absurd (show X.env.locals < C from Nat.lt_of_lt_of_le I2.lt hC) (by rw [z];exact Nat.lt_irrefl _)
  ·obtain ⟨_,q⟩:=I2.cell y C z
   exact absurd (Nat.lt_of_lt_of_le q.lt hC) (Nat.lt_irrefl _)
 refine ⟨m,hn.sameBut sa hCa,fun h' sb=>⟨_,_,?_,q D nD⟩⟩
 refine B'.turned (it:=C) (h':=h') (t':=s''.toks) (fun b o hb e=>(sb.2 b hb).trans e) ((qi (H:=H') (a:=D) (b:=C) (o:=.lst ys) (Ne.symm neD)).trans J'.free) (Nat.ne_of_gt (Nat.lt_of_lt_of_le I2.lt hC)) (.inr (Nat.le_trans I2.sz hC)) (fun x c e z=>?_) (fun p hp z=>?_)
 ·obtain ⟨_,q⟩:=I2.cell x c e
  exact absurd (Nat.lt_of_lt_of_le q.lt (by rw [z];exact hC)) (Nat.lt_irrefl _)
 ·exact absurd (Nat.lt_of_lt_of_le (Heap.lt_size (I2.pin p hp).1) (by rw [z];exact hC)) (Nat.lt_irrefl _)
end
end L2
namespace L2
open PySem PySem.Spec PyProof.Rows
def Its (x:Str):It:=⟨fun i _=>i < x.cps.size,fun i H v H'=>H'=H∧∃ c,x.cps[i]?=some c∧v=.str ⟨#[c]⟩,fun i _=>i=x.cps.size⟩
theorem qcW {P:Program} {w:World} {K:PySem.W.Frag} {tg:Expr} {it:Addr} {x:Str} {t:Tok} {T:String} (W:∀ A:Around,A.handled=none→Walks P w A it [it] [it] x.cps.size (SignAt x) fun i h=>h.IsStrIter it T x t i)
  (sf:∀ (A:Around) (i:Nat) (s:Shared) (Q:Value→Shared→Prop) (E:Value→Shared→Prop),s.heap.IsStrIter it T x t i→Q (.ref it) s→wpAny (model P w) A (pyIter (.ref it)) Q E s)
  (htg:∀ v,letOwnedTupleGo tg (.ref it) v=pure ()):Turn P w K tg (Its x) [it] it (fun i h=>h.IsStrIter it T x t i) where
 mem:=by simp
 obj:=fun i h st b hb=>by
  have e:b=it:=by simpa using hb
  subst e
  obtain ⟨o,e,c,d⟩:=st
  exact ⟨o,e,fun v z=>by rw [d] at z;cases z⟩
 keep:=fun i h h' st k=>by
  obtain ⟨o,e,r⟩:=st
  exact ⟨o,k it (by simp) o e,r⟩
 item:=by
  intro X hP hw hK hc i pins s σ H E I hf st hg
  subst hP hw hK
  obtain ⟨f0,f1,f2,f3,f4,f5⟩:=hf it (by simp)
  refine (W X.A (I.ok.hd hc)).item i s _ _ hg st fun v h' tk hv st' kk=>?_
  obtain ⟨c,u,hcx,rfl⟩:=hv
  have I1:Inv X pins σ H { s with heap:=h',toks:=tk }:=I.turned (fun b o hb e=>kk b o (by simpa using hb) e) f0 f1 f3 f4 f5
  refine ⟨_,rfl,wpAny_of_eq (htg _) ⟨.str ⟨#[c]⟩,H,I1,⟨u,rfl⟩,⟨rfl,c,hcx,rfl⟩,st',fun b hb=>(hf b hb).1⟩⟩
 done:=by
  intro X hP hw hK hc i pins s σ H E I hf st hg
  subst hP hw hK
  obtain ⟨f0,f1,f2,f3,f4,f5⟩:=hf it (by simp)
  have e:i=x.cps.size:=hg
  subst e
  exact (W X.A (I.ok.hd hc)).done s _ _ st fun h' tk kk=>⟨rfl,I.turned (fun b o hb e=>kk b o (by simpa using hb) e) f0 f1 f3 f4 f5⟩
 self:=sf
section
variable {X:Cx} {tg:Expr}
end
section
variable {K:PySem.W.Frag} {a:Addr} {xs:List V} {g:TG} {tc:TT} {te:TE} {σ':St} {H1:Hp} {Q:V→Hp→Prop}
def qek (J:It) (g:TG) (tc:TT) (te:TE) (σ':St) (H1:Hp) (Q:V→Hp→Prop):Prop:=
 ∃ W:Nat→Nat→List V→Hp→Prop,(∃ m,W 0 m [] H1)∧∀ i m ys H,W i m ys H →
   (J.stop i H∧ys.length≤sizeLine∧∀ p,H p=none→Q (.ref p) (upd H p (.lst ys))) ∨
   (J.go i H∧∃ M:List V→Hp→Prop,(∀ ys' H',M ys' H'→∃ m',m' < m∧W (i + 1) m' ys' H')∧∀ x H',J.yld i H x H'→g x σ' H' fun σ2 H2=>tc σ2 H2 fun b H3 =>
    if b=true then te σ2 H3 fun v H4=>ys.length < sizeLine∧M (ys++[v]) H4 else M ys H3)
theorem jm (Pv:Nat→List V→Hp→Prop) (h0:Pv 0 [] H1) (hl:∀ i ys H,i≤xs.length→Pv i ys H→SqL K H a xs)
  (hs:∀ i x ys H,xs[i]?=some x→Pv i ys H→g x σ' H fun σ2 H2=>tc σ2 H2 fun b H3=>if b=true then te σ2 H3 fun v H4=>ys.length < sizeLine∧Pv (i + 1) (ys++[v]) H4 else Pv (i + 1) ys H3)
  (hd:∀ ys H,Pv xs.length ys H→ys.length≤sizeLine∧∀ p,H p=none→Q (.ref p) (upd H p (.lst ys))):qek (Itl K a) g tc te σ' H1 Q:=by
 refine ⟨fun i m ys H=>m=xs.length - i∧i≤xs.length∧Pv i ys H,⟨xs.length,by simp,Nat.zero_le _,h0⟩,?_⟩
 rintro i m ys H ⟨rfl,hi,p⟩
 have q:=hl i ys H hi p
 by_cases hlt:i < xs.length
 ·refine .inr ⟨⟨xs,xs[i],q,by simp [hlt]⟩,Pv (i + 1),fun ys' H' p'=>⟨xs.length - (i + 1),by omega,rfl,hlt,p'⟩,fun x H' y=>?_⟩
  obtain ⟨e,y⟩:=y
  subst e
  exact hs i x ys _ (y xs q) p
 ·have e:i=xs.length:=by omega
  subst e
  exact .inl ⟨⟨xs,q,Nat.le_refl _⟩,hd ys H p⟩
theorem jV {lo:Int} {n:Nat} (Pv:Nat→List V→Hp→Prop) (h0:Pv 0 [] H1)
  (hs:∀ i ys H,i < n→Pv i ys H→g (.int (lo + i)) σ' H fun σ2 H2=>tc σ2 H2 fun b H3=>if b=true then te σ2 H3 fun v H4=>ys.length < sizeLine∧Pv (i + 1) (ys++[v]) H4 else Pv (i + 1) ys H3)
  (hd:∀ ys H,Pv n ys H→ys.length≤sizeLine∧∀ p,H p=none→Q (.ref p) (upd H p (.lst ys))):qek (Itr lo n) g tc te σ' H1 Q:=by
 refine ⟨fun i m ys H=>m=n - i∧i≤n∧Pv i ys H,⟨n,by simp,Nat.zero_le _,h0⟩,?_⟩
 rintro i m ys H ⟨rfl,hi,p⟩
 by_cases hlt:i < n
 ·refine .inr ⟨hlt,Pv (i + 1),fun ys' H' p'=>⟨n - (i + 1),by omega,rfl,hlt,p'⟩,fun x H' y=>?_⟩
  obtain ⟨e,y⟩:=y
  subst e y
  exact hs i ys _ hlt p
 ·have e:i=n:=by omega
  subst e
  exact .inl ⟨Nat.le_refl _,hd ys H p⟩
theorem comp_str {x:Str} (Pv:Nat→List V→Hp→Prop) (h0:Pv 0 [] H1)
  (hs:∀ i c ys H,x.cps[i]?=some c→Pv i ys H→g (.str ⟨#[c]⟩) σ' H fun σ2 H2=>tc σ2 H2 fun b H3=>if b=true then te σ2 H3 fun v H4=>ys.length < sizeLine∧Pv (i + 1) (ys++[v]) H4 else Pv (i + 1) ys H3)
  (hd:∀ ys H,Pv x.cps.size ys H→ys.length≤sizeLine∧∀ p,H p=none→Q (.ref p) (upd H p (.lst ys))):qek (Its x) g tc te σ' H1 Q:=by
 refine ⟨fun i m ys H=>m=x.cps.size - i∧i≤x.cps.size∧Pv i ys H,⟨x.cps.size,by simp,Nat.zero_le _,h0⟩,?_⟩
 rintro i m ys H ⟨rfl,hi,p⟩
 by_cases hlt:i < x.cps.size
 ·refine .inr ⟨hlt,Pv (i + 1),fun ys' H' p'=>⟨x.cps.size - (i + 1),by omega,rfl,hlt,p'⟩,fun v H' y=>?_⟩
  obtain ⟨e,c,hc,y⟩:=y
  subst e y
  exact hs i c ys _ hc p
 ·have e:i=x.cps.size:=by omega
  subst e
  exact .inl ⟨rfl,hd ys H p⟩
end
def qbU:V→Option Value
 | .ty n=>some (.type n)
 | .ref a=>some (.ref a)
 | _=>none
theorem qbk {y:V} {c u:Value} (h:qbU y=some c) (r:RelV y u):u=c:=by
 cases y with
 | ty n=>cases h;exact r
 | ref a=>cases h;exact r
 | _=>cases h
section
variable {X:Cx} {pins:List (Addr×Obj)} {σ:St} {H:Hp} {s:Shared}
theorem TyOf.kit {x:V} {u t:Value} (I:Inv X pins σ H s) (rx:RelV x u) (ty:TyOf X.K H x t):∃ P:Heap→Prop,PySem.W.KitX X.K u t P∧P s.heap∧u≠.builtin "__main__.__loader__#opaque":=by
 cases ty with
 | non=>cases (show u=Value.none from rx);exact ⟨_,PySem.W.kitx_none,True.intro,(fun z=>nomatch z)⟩
 | bl y=>cases (show u=Value.bool y from rx);exact ⟨_,PySem.W.kitx_bool,True.intro,(fun z=>nomatch z)⟩
 | int i=>obtain ⟨t,q⟩:=(show ∃ t,u=Value.int i t from rx);cases q;exact ⟨_,PySem.W.kitx_int,True.intro,(fun z=>nomatch z)⟩
 | str y=>obtain ⟨t,q⟩:=(show ∃ t,u=Value.str y t from rx);cases q;exact ⟨_,PySem.W.kitx_str,True.intro,(fun z=>nomatch z)⟩
 | flt y=>obtain ⟨t,q⟩:=(show ∃ t,u=Value.float y t from rx);cases q;exact ⟨_,PySem.W.kitx_float,True.intro,(fun z=>nomatch z)⟩
 | @lst a xs ea =>
  cases (show u=Value.ref a from rx)
  obtain ⟨_,_,n,_,h1⟩:=(show ObjOk X.prog X.w H s.heap a (.lst xs) from I.hok a _ ea)
  exact ⟨_,PySem.W.kitx_list,⟨_,h1,rfl⟩,(fun z=>nomatch z)⟩
 | @frz a ob xs ea =>
  cases (show u=Value.ref a from rx)
  obtain ⟨_,_,_,n,_,h1⟩:=(show ObjOk X.prog X.w H s.heap a (.frz ob (.lst xs)) from I.hok a _ ea)
  exact ⟨_,PySem.W.kitx_list,⟨_,h1,rfl⟩,(fun z=>nomatch z)⟩
 | @tup a xs ea =>
  cases (show u=Value.ref a from rx)
  obtain ⟨_,_,_,p⟩:=(show ObjOk X.prog X.w H s.heap a (.tup xs) from I.hok a _ ea)
  obtain ⟨o,h1,h2,_⟩:=p
  exact ⟨_,PySem.W.kitx_tuple,⟨o,h1,h2⟩,(fun z=>nomatch z)⟩
 | @dK a kvs ea =>
  cases (show u=Value.ref a from rx)
  obtain ⟨_,_,vs,_,p⟩:=(show ObjOk X.prog X.w H s.heap a (.dK kvs) from I.hok a _ ea)
  obtain ⟨o,es,ep,h1,h2,_⟩:=p
  exact ⟨_,PySem.W.kitx_dict,⟨o,h1,h2.1⟩,(fun z=>nomatch z)⟩
 | @dT a kvs ea =>
  cases (show u=Value.ref a from rx)
  obtain ⟨_,_,xs,_,o,es,ep,h1,h2,_⟩:=(show ObjOk X.prog X.w H s.heap a (.dT kvs) from I.hok a _ ea)
  exact ⟨_,PySem.W.kitx_dict,⟨o,h1,h2.1⟩,(fun z=>nomatch z)⟩
 | @ins a C dx fs ea cl ha hn htk hm =>
  cases (show u=Value.ref a from rx)
  obtain ⟨mA,O,_⟩:=qas I.hok ea
  obtain ⟨od,J,_⟩:=O.look
  exact ⟨_,PySem.W.kitx_own (cl.get _) cl.hd ha hn htk hm,J,(fun z=>nomatch z)⟩
end
section
variable {X:Cx}
theorem qa1:∀ {ys:List V} {cs us:List Value},ys.map qbU=cs.map some→Vals ys us→us=cs
 | [],[],_,_,.nil=>rfl
 | [],_::_,_,h,_=>by cases h
 | y::ys,[],_,h,_=>by cases h
 | y::ys,c::cs,_,h,.cons r t=>by
  rw [List.map_cons,List.map_cons] at h
  injection h with h1 h2
  rw [qbk h1 r,qa1 h2 t]
theorem qcX:∀ {bs:List Bool} {us:List Value},Vals (bs.map V.bl) us→us=bs.map Value.bool
 | [],_,.nil=>rfl
 | b::bs,_,.cons r t=>by
  have e:=qcX t
  rw [e]
  cases r
  rfl
def qgr (K:PySem.W.Frag):List V→Hp→VK→Prop:=fun xs H Q=>∃ (p:Addr) (bs:List Bool),xs=[.ref p]∧SqL K H p (bs.map V.bl)∧Q (.bl (bs.all id)) H
theorem call_all (hc:X.calm=true):zm X (.builtin "all") (qgr X.K):=by
 intro pins s σ H xs us Q I r h
 obtain ⟨p,bs,rfl,hp,q⟩:=h
 obtain ⟨u,rfl,ru⟩:=qaH r
 cases ru
 obtain ⟨its,rv,pl,hz⟩:=I.list hp
 have e:=qcX rv
 subst e
 have hh:X.A.in1.handled=none:=I.ok.hd hc
 refine call_all_walk (wpAny_pyIter_list pl.isList ?_)
 have hne:p≠s.heap.objs.size:=by
  obtain ⟨o,ho,_⟩:=pl.isList
  exact Nat.ne_of_lt (Heap.lt_size ho)
 refine ⟨s.heap.objs.size,_,_,_,_,_,fun i=>(bs[i]?).getD false,rfl,Walks.list hh s.heap.objs.size p hne (bs.map Value.bool).toArray,⟨⟨_,Heap.get?_push_size _ rfl,rfl,rfl⟩,pl.isList.at fun o e=>Heap.get?_push_of_some _ e⟩,fun i v s Q E hv hq=>?_,fun h' tk hk=>?_⟩
 ·have hv':(bs.map Value.bool)[i]?=some v:=by simpa using hv
  rw [List.getElem?_map] at hv'
  cases e:bs[i]? with
  | none=>rw [e] at hv';cases hv'
  | some b =>
   rw [e] at hv'
   cases hv'
   have hq':Q ((bs[i]?).getD false) s:=hq
   rw [e] at hq'
   exact wpAny_pure hq'
 ·have e:((List.range (bs.map Value.bool).toArray.size).all fun i=>(bs[i]?).getD false)=bs.all id:=by
   rw [List.size_toArray,List.length_map]
   have key:∀ bs:List Bool,((List.range bs.length).all fun i=>(bs[i]?).getD false)=bs.all id:=by
    intro bs
    induction bs with
    | nil=>rfl
    | cons b r ih =>
     rw [List.length_cons,List.range_succ_eq_map,List.all_cons,List.all_map,List.all_cons,← ih]
     rfl
   exact key bs
  rw [e]
  refine ⟨.bl _,H,?_,rfl,q⟩
  have I1:Inv X pins σ H { s with heap:=s.heap.push { cls:=.type "list_iterator",data:=.fields #[.ref p,.int 0 0] } }:=I.kept (t':=s.toks) fun b o e=>Heap.get?_push_of_some _ e
  have nf:=I.fpOk (b:=s.heap.objs.size) (Nat.le_refl _) (I.hok.fresh (Nat.le_refl _))
  exact I1.turned (it:=s.heap.objs.size) (h':=h') (t':=tk) (fun b o hb e=>hk b o (by simpa using hb) e) nf.1 nf.2.1 nf.2.2.2.1 nf.2.2.2.2.1 nf.2.2.2.2.2
theorem op_le_str:OpR X (compareOp .LtE) (fun x y H Q=>∃ i j,x=.str i∧y=.str j∧Q (.bl (!decide (j.cps.toList < i.cps.toList))) H):=by
 intro pins s σ H x y v u Q I rx ry h
 obtain ⟨i,j,rfl,rfl,q⟩:=h
 obtain ⟨t,rfl⟩:=rx
 obtain ⟨t',rfl⟩:=ry
 exact PySem.P.le_str (fin_bl I q (by rfl))
def qf3:R2:=fun x y H Q=>match x,y with
 | .int i,.int j=>Q (.bl (decide (i≤j))) H
 | .str i,.str j=>Q (.bl (!decide (j.cps.toList < i.cps.toList))) H
 | _,_=>False
theorem qfQ:OpR X (compareOp .LtE) qf3:=by
 intro pins s σ H x y v u Q I rx ry h
 cases x with
 | int i=>cases y with
  | int j=>exact op_le pins s σ H _ _ v u Q I rx ry ⟨i,j,rfl,rfl,h⟩
  | _=>exact False.elim h
 | str i=>cases y with
  | str j=>exact op_le_str pins s σ H _ _ v u Q I rx ry ⟨i,j,rfl,rfl,h⟩
  | _=>exact False.elim h
 | _=>exact False.elim h
def rIsU:R2:=fun x y H Q=>match x,y with
 | .bl i,.bl j=>Q (.bl (i==j)) H
 | x,.non=>Q (.bl (decide (x=.non))) H
 | _,_=>False
theorem op_rep_str:OpR X (binaryOp .Mult) (fun x y H Q=>∃ z k,x=.str z∧y=.int k∧MulOk z k∧Q (.str (Txt.mul z k)) H):=by
 intro pins s σ H x y v u Q I rx ry h
 obtain ⟨z,k,rfl,rfl,hm,q⟩:=h
 obtain ⟨t,rfl⟩:=rx
 obtain ⟨t',rfl⟩:=ry
 exact SB.mul hm fun t' k'=>⟨.str _,H,I.tok _,⟨_,rfl⟩,q⟩
def qfp:R2:=fun x y H Q=>match x,y with
 | .int i,.int j=>CMul i j∧Q (.int (i * j)) H
 | .str z,.int k=>MulOk z k∧Q (.str (Txt.mul z k)) H
 | .ref a,.int k=>qgp (.ref a) (.int k) H Q
 | _,_=>False
theorem qbV:OpR X (binaryOp .Mult) qfp:=by
 intro pins s σ H x y v u Q I rx ry h
 cases y with
 | int j=>cases x with
  | int i=>exact op_mul pins s σ H _ _ v u Q I rx ry ⟨i,j,rfl,rfl,h.1,h.2⟩
  | str i=>exact op_rep_str pins s σ H _ _ v u Q I rx ry ⟨i,j,rfl,rfl,h.1,h.2⟩
  | ref a=>exact qdJ pins s σ H _ _ v u Q I rx ry h
  | _=>exact False.elim h
 | _=>cases x<;>exact False.elim h
def qdP (K:PySem.W.Frag):R2:=fun x y H Q=>match x,y with
 | .int i,.int j=>Q (.int (i + j)) H
 | .str i,.str j=>i.length + j.length≤sizeLine∧Q (.str (i++j)) H
 | .ref a,.ref b=>qgo (.ref a) (.ref b) H Q∨qfm K (.ref a) (.ref b) H Q
 | _,_=>False
theorem u_add:OpR X (binaryOp .Add) (qdP X.K):=by
 intro pins s σ H x y v u Q I rx ry h
 cases x with
 | int i=>cases y with
  | int j=>exact op_add pins s σ H _ _ v u Q I rx ry ⟨i,j,rfl,rfl,h⟩
  | _=>exact False.elim h
 | str i=>cases y with
  | str j=>exact op_add_str pins s σ H _ _ v u Q I rx ry ⟨i,j,rfl,rfl,h.1,h.2⟩
  | _=>exact False.elim h
 | ref a=>cases y with
  | ref b=>exact h.elim (fun h=>op_cat pins s σ H _ _ v u Q I rx ry h) fun h=>op_catT pins s σ H _ _ v u Q I rx ry h
  | _=>exact False.elim h
 | _=>exact False.elim h
def qcs (K:PySem.W.Frag):List V→Hp→VK→Prop:=fun xs H Q=>match xs with
 | [.str z]=>z.length≤sizeLine∧Q (.int z.length) H
 | [.ref p]=>(∃ ys,(SqL K H p ys∨SqT K H p ys)∧Q (.int ys.length) H)∨∃ kvs,H p=some (.dK kvs)∧Q (.int kvs.length) H
 | _=>False
theorem call_lenU:zm X (.builtin "len") (qcs X.K):=by
 intro pins s σ H xs us Q I r h
 match xs,h with
 | [.str z],h=>exact call_len_str pins s σ H _ us Q I r ⟨z,rfl,h.1,h.2⟩
 | [.ref p],.inl ⟨ys,h,q⟩=>exact call_len_seq pins s σ H _ us Q I r ⟨p,ys,rfl,h,q⟩
 | [.ref p],.inr ⟨kvs,h,q⟩=>exact call_lenD pins s σ H _ us Q I r ⟨p,kvs,rfl,h,q⟩
theorem sl_str:SlR X (fun x lo hi H Q=>∃ z,x=.str z∧z.length≤sizeLine∧Q (.str (Txt.slice z lo hi)) H):=by
 intro pins s σ H x v vl vu lo hi sl Q I rx hs pl pu h
 obtain ⟨z,rfl,hz,q⟩:=h
 obtain ⟨t,rfl⟩:=rx
 refine ⟨"str",_,F.slot_str_getitem.lookup,typeIs_str _ _ _,?_⟩
 cases pl with
 | none =>
  cases pu with
  | none=>exact wpAny_getItem_str_slice (l:=none) (u:=none) (st:=none) hs rfl (post_val_or_str ⟨Nat.le_trans (Txt.slice_le z _ _) hz,fun t' k=>⟨.str _,H,I.tok _,⟨_,rfl⟩,q⟩⟩)
  | int j uj=>exact wpAny_getItem_str_slice (l:=none) (u:=some (j,uj)) (st:=none) hs rfl (post_val_or_str ⟨Nat.le_trans (Txt.slice_le z _ _) hz,fun t' k=>⟨.str _,H,I.tok _,⟨_,rfl⟩,q⟩⟩)
 | int i ui =>
  cases pu with
  | none=>exact wpAny_getItem_str_slice (l:=some (i,ui)) (u:=none) (st:=none) hs rfl (post_val_or_str ⟨Nat.le_trans (Txt.slice_le z _ _) hz,fun t' k=>⟨.str _,H,I.tok _,⟨_,rfl⟩,q⟩⟩)
  | int j uj=>exact wpAny_getItem_str_slice (l:=some (i,ui)) (u:=some (j,uj)) (st:=none) hs rfl (post_val_or_str ⟨Nat.le_trans (Txt.slice_le z _ _) hz,fun t' k=>⟨.str _,H,I.tok _,⟨_,rfl⟩,q⟩⟩)
def qf4 (K:PySem.W.Frag):V→Option Int→Option Int→Hp→VK→Prop:=fun x lo hi H Q=>match x with
 | .str z=>z.length≤sizeLine∧Q (.str (Txt.slice z lo hi)) H
 | .ref a=>qgm K (.ref a) lo hi H Q∨qgi K (.ref a) lo hi H Q
 | _=>False
theorem u_sl:SlR X (qf4 X.K):=by
 intro pins s σ H x v vl vu lo hi sl Q I rx hs pl pu h
 cases x with
 | str z=>exact sl_str pins s σ H _ v vl vu lo hi sl Q I rx hs pl pu ⟨z,rfl,h.1,h.2⟩
 | ref a=>exact h.elim (fun h=>sl_list pins s σ H _ v vl vu lo hi sl Q I rx hs pl pu h) fun h=>sl_tup pins s σ H _ v vl vu lo hi sl Q I rx hs pl pu h
 | _=>exact False.elim h
theorem qdQ:∀ {ys:List Str} {us:List Value},Vals (ys.map V.str) us→StrsAre us ys
 | [],_,.nil=>.nil
 | y::ys,_,.cons r t=>by
  obtain ⟨tk,rfl⟩:=r
  exact .cons y tk (qdQ t)
def qfq (K:PySem.W.Frag):V→List V→Hp→VK→Prop:=fun x vs H Q=>∃ (z:Str) (p:Addr) (ys:List Str),x=.str z∧vs=[.ref p]∧SqL K H p (ys.map V.str)∧(ys.map (·.length)).sum + ys.length * z.length≤16777216∧Q (.str (Txt.join z ys)) H
theorem mt_join:MtR X "str.join" (qfq X.K):=by
 intro pins s σ H x vs v us Q I rx rv h
 obtain ⟨z,p,ys,rfl,rfl,hp,hz,q⟩:=h
 obtain ⟨t,rfl⟩:=rx
 obtain ⟨u,rfl,ru⟩:=rv.one
 cases ru
 obtain ⟨its,r,pl,_⟩:=I.list hp
 exact join_list pl.isList (by simpa using qdQ r) hz fun t' k=>⟨.str _,H,I.tok _,⟨_,rfl⟩,q⟩
def qf5 (K:PySem.W.Frag) (te:TE):TI:=fun σ H R=>te σ H fun v H1=>match v with
 | .str x=>R (Its x) H1
 | .ref a=>((∃ xs,SqL K H1 a xs)∧R (Itl K a) H1)∨((∃ xs,SqT K H1 a xs)∧R (Itt K a) H1)
 | _=>False
theorem pi_any {tg e:Expr} {te:TE} (he:PE X e te) (htg:∀ it v,letOwnedTupleGo tg it v=pure ():=by intro _ _;rfl):PI X tg e (qf5 X.K te):=by
 intro pins s σ H R I h
 refine thn (he pins s σ H _ I h) fun v s1 ⟨y,H1,I1,r1,q1⟩=>?_
 cases y with
 | str x =>
  obtain ⟨t,rfl⟩:=r1
  have fp:∀ b∈[s1.heap.objs.size],qco X pins H1 b:=fun b hb=>by
   have e:b=s1.heap.objs.size:=by simpa using hb
   subst e
   exact I1.fpOk (Nat.le_refl _) (I1.hok.fresh (Nat.le_refl _))
  cases ha:x.cps.all (· < 128)
  ·exact wpAny_pyIter_wide ha ⟨s1.heap.objs.size,[s1.heap.objs.size],_,_,H1,rfl,I1.kept (t':=s1.toks) fun b o e=>Heap.get?_push_of_some _ e,
    qcW (T:="str_iterator") (fun A hA=>Walks.strWide hA _ x t) (fun A i s Q E st h=>wpAny_pyIter_striter_wide st h) (htg _),⟨_,Heap.get?_push_size _ rfl,rfl,rfl⟩,fp,q1⟩
  ·exact wpAny_pyIter_ascii ha ⟨s1.heap.objs.size,[s1.heap.objs.size],_,_,H1,rfl,I1.kept (t':=s1.toks) fun b o e=>Heap.get?_push_of_some _ e,
    qcW (T:="str_ascii_iterator") (fun A hA=>Walks.strAscii hA _ x t) (fun A i s Q E st h=>wpAny_pyIter_striter_ascii st h) (htg _),⟨_,Heap.get?_push_size _ rfl,rfl,rfl⟩,fp,q1⟩
 | ref a =>
  cases r1
  have fp:∀ b∈[s1.heap.objs.size],qco X pins H1 b:=fun b hb=>by
   have e:b=s1.heap.objs.size:=by simpa using hb
   subst e
   exact I1.fpOk (Nat.le_refl _) (I1.hok.fresh (Nat.le_refl _))
  rcases q1 with ⟨⟨xs,hq⟩,q⟩ | ⟨⟨xs,hq⟩,q⟩
  ·obtain ⟨its,rv,p,hz⟩:=I1.list hq
   exact wpAny_pyIter_list p.isList ⟨s1.heap.objs.size,[s1.heap.objs.size],_,_,H1,rfl,I1.kept (t':=s1.toks) fun b o e=>Heap.get?_push_of_some _ e,qbF a _,⟨_,Heap.get?_push_size _ rfl,rfl,rfl⟩,fp,q⟩
  ·obtain ⟨its,rv,p,hz⟩:=I1.tuple hq
   exact wpAny_pyIter_tuple (show s1.heap.IsTuple a its.toArray from p) ⟨s1.heap.objs.size,[s1.heap.objs.size],_,_,H1,rfl,I1.kept (t':=s1.toks) fun b o e=>Heap.get?_push_of_some _ e,turn_tuple a _,⟨_,Heap.get?_push_size _ rfl,rfl,rfl⟩,fp,q⟩
 | _=>exact False.elim q1
end
end L2
namespace L2
open PySem PySem.Spec PyProof.Rows
section
variable {D:Ends} {σ:St} {H:Hp} {Q:VK} {QT:Bool→Hp→Prop} {QA:List V→Hp→Prop} {t u:TS} {te ta tb tc:TE} {c c':TT} {tr tas:TA} {r r':R2} {K:PySem.W.Frag}
theorem vSeq (h:t { D with nx:=u D } σ H):qga t u D σ H:=h
theorem vAsg {i:Nat} (h:te σ H fun x H1=>D.nx (σ.set i (some x)) H1):qfg te (qcm i) D σ H:=h
theorem vAsgS {to ti:TE} {s:qff} (h:te σ H fun x H1=>to σ H1 fun o H2=>ti σ H2 fun i H3=>s o i x H3 fun H4=>D.nx σ H4):qfg te (qgd to ti s) D σ H:=h
theorem vIfS (h:c σ H fun b H1=>if b=true then t D σ H1 else u D σ H1):qgc c t u D σ H:=h
theorem vRet (h:te σ H D.rt):qgb te D σ H:=h
theorem vRetN (h:D.rt .non H):tRetN D σ H:=h
theorem vDrop (h:te σ H fun _ H1=>D.nx σ H1):qfe te D σ H:=h
theorem vNext (h:D.nx σ H):qfd D σ H:=h
theorem vC {v:V} (h:Q v H):tC v σ H Q:=h
theorem vVar {i:Nat} {v:V} (e:σ[i]?=some (some v)) (h:Q v H):qfX i σ H Q:=⟨v,e,h⟩
theorem vOp (h:ta σ H fun x H1=>tb σ H1 fun y H2=>r x y H2 Q):tOp r ta tb σ H Q:=h
theorem vUn {f:V→Hp→VK→Prop} (h:ta σ H fun x H1=>f x H1 Q):tUn f ta σ H Q:=h
theorem vChain (h:ta σ H fun x H1=>tb σ H1 fun y H2=>r x y H2 fun z H3=>∃ k,z=.bl k∧if k=true then tc σ H3 fun z2 H4=>r' y z2 H4 Q else Q (.bl false) H3):qdA r r' ta tb tc σ H Q:=h
theorem vNil (h:QA [] H):qfO σ H QA:=h
theorem vCons (h:ta σ H fun x H1=>tr σ H1 fun xs H2=>QA (x::xs) H2):qfj ta tr σ H QA:=h
theorem vCB {f:List V→Hp→VK→Prop} (h:tas σ H fun vs H1=>f vs H1 Q):tCB f tas σ H Q:=h
theorem vCall {sp:Sp} {E:XK} (h:tas σ H fun vs H1=>sp (vs++[]) H1 Q E):qdB sp [] E tas σ H Q:=h
theorem vLst (h:tas σ H fun xs H1=>xs.length≤sizeLine∧∀ p,H1 p=none→Q (.ref p) (upd H1 p (.lst xs))):qgh tas σ H Q:=h
theorem vTup (h:tas σ H fun xs H1=>xs.length≤sizeLine∧∀ p,H1 p=none→Q (.ref p) (upd H1 p (.tup xs))):qgg tas σ H Q:=h
theorem vTest (h:te σ H fun x H'=>∃ k,x=.bl k∧QT k H'):qeU te σ H QT:=h
theorem vB (h:te σ H fun x H'=>∃ k,x=.bl k∧QT k H'):tB te σ H QT:=h
theorem vNot (h:c σ H fun b H1=>QT (!b) H1):qf9 c σ H QT:=h
theorem vAnd (h:c σ H fun b H1=>if b=true then c' σ H1 QT else QT false H1):qf8 c c' σ H QT:=h
theorem vOr (h:c σ H fun b H1=>if b=true then QT true H1 else c' σ H1 QT):tOr c c' σ H QT:=h
theorem vAndV (h:ta σ H fun x H1=>∃ k,x=.bl k∧if k=true then tb σ H1 Q else Q (.bl false) H1):qfc ta tb σ H Q:=h
theorem vOrV (h:ta σ H fun x H1=>∃ k,x=.bl k∧if k=true then Q (.bl true) H1 else tb σ H1 Q):tOrV ta tb σ H Q:=h
theorem vNotV (h:ta σ H fun x H1=>∃ k,x=.bl k∧Q (.bl (!k)) H1):tNotV ta σ H Q:=h
theorem vIf (h:c σ H fun b H1=>if b=true then ta σ H1 Q else tb σ H1 Q):tIf c ta tb σ H Q:=h
theorem vYes (h:QT true H):qgq σ H QT:=h
theorem vI0 {g:Int→Int→V} {i j:Int} (h:Q (g i j) H):rI0 g (.int i) (.int j) H Q:=⟨i,j,rfl,rfl,h⟩
theorem vI {C:Int→Int→Prop} {g:Int→Int→V} {i j:Int} (hc:C i j) (h:Q (g i j) H):rI C g (.int i) (.int j) H Q:=⟨i,j,rfl,rfl,hc,h⟩
theorem vU {g:Int→V} {i:Int} (h:Q (g i) H):rU g (.int i) H Q:=⟨i,rfl,h⟩
theorem vEqI {i j:Int} (h:Q (.bl (decide (i=j))) H):rEq (.int i) (.int j) H Q:=⟨rfl,by
 have e:decide (V.int i=V.int j)=decide (i=j):=by
  by_cases h:i=j
  ·subst h;simp
  ·rw [decide_eq_false h,decide_eq_false (fun e=>h (V.int.inj e))]
 rw [e];exact h⟩
theorem vEqB {i j:Bool} (h:Q (.bl (i==j)) H):rEq (.bl i) (.bl j) H Q:=⟨rfl,by rw [dec_bl];exact h⟩
theorem zZ {p:Addr} {xs:List V} {i:Int} {v:V} (hp:H p=some (.lst xs)) (ha:atI xs i=some v) (h:Q v H):rIx K (.ref p) (.int i) H Q:=.inl ⟨p,xs,i,v,rfl,rfl,SqL.of hp,ha,h⟩
theorem vIxLs {p:Addr} {xs:List V} {i:Int} {v:V} (hp:SqL K H p xs) (ha:atI xs i=some v) (h:Q v H):rIx K (.ref p) (.int i) H Q:=.inl ⟨p,xs,i,v,rfl,rfl,hp,ha,h⟩
theorem qes {p:Addr} {xs:List V} {i:Int} {v:V} (hp:H p=some (.tup xs)) (ha:atI xs i=some v) (h:Q v H):rIx K (.ref p) (.int i) H Q:=.inr (.inl ⟨p,xs,i,v,rfl,rfl,SqT.of hp,ha,h⟩)
theorem qgs {z:Str} {i:Int} {ch:Nat} (hz:z.length≤sizeLine) (ha:atI z.cps.toList i=some ch) (h:Q (.str ⟨#[ch]⟩) H):rIx K (.str z) (.int i) H Q:=.inr (.inr ⟨z,i,ch,rfl,rfl,hz,ha,h⟩)
theorem qdo {p:Addr} {xs:List V} {k:Int} {v:V} {j:Nat} {QH:Hp→Prop} (hp:H p=some (.lst xs)) (hj:ixN xs.length k=some j) (h:QH (upd H p (.lst (xs.set j v)))):qeW (.ref p) (.int k) v H QH:=⟨p,xs,k,j,rfl,rfl,hp,hj,h⟩
theorem vEx {k:Bool} {P:Bool→Prop} (h:P k):∃ k',V.bl k=.bl k'∧P k':=⟨k,rfl,h⟩
theorem vLeI {i j:Int} (h:Q (.bl (decide (i≤j))) H):qf3 (.int i) (.int j) H Q:=h
theorem vLeS {i j:Str} (h:Q (.bl (!decide (j.cps.toList < i.cps.toList))) H):qf3 (.str i) (.str j) H Q:=h
theorem vIsB {i j:Bool} (h:Q (.bl (i==j)) H):rIsU (.bl i) (.bl j) H Q:=h
theorem vAddI {i j:Int} (h:Q (.int (i + j)) H):qdP K (.int i) (.int j) H Q:=h
theorem qeX {i j:Str} (hz:i.length + j.length≤sizeLine) (h:Q (.str (i++j)) H):qdP K (.str i) (.str j) H Q:=⟨hz,h⟩
theorem qbW {i j:Int} (hc:CMul i j) (h:Q (.int (i * j)) H):qfp (.int i) (.int j) H Q:=⟨hc,h⟩
theorem vLenS {z:Str} (hz:z.length≤sizeLine) (h:Q (.int z.length) H):qcs K [.str z] H Q:=⟨hz,h⟩
theorem qau {p:Addr} {ys:List V} (hp:H p=some (.lst ys)) (h:Q (.int ys.length) H):qcs K [.ref p] H Q:=.inl ⟨ys,.inl (SqL.of hp),h⟩
theorem vLenLs {p:Addr} {ys:List V} (hp:SqL K H p ys) (h:Q (.int ys.length) H):qcs K [.ref p] H Q:=.inl ⟨ys,.inl hp,h⟩
theorem qfr {p:Addr} {ys:List V} (hp:H p=some (.tup ys)) (h:Q (.int ys.length) H):qcs K [.ref p] H Q:=.inl ⟨ys,.inr (SqT.of hp),h⟩
theorem qf6 {z:Str} {lo hi:Option Int} (hz:z.length≤sizeLine) (h:Q (.str (Txt.slice z lo hi)) H):qf4 K (.str z) lo hi H Q:=⟨hz,h⟩
theorem vSl {f:V→Option Int→Option Int→Hp→VK→Prop} {tl th:TO} (h:te σ H fun x H1=>tl σ H1 fun l H2=>th σ H2 fun u H3=>f x l u H3 Q):tSl f te tl th σ H Q:=h
theorem vNoPart {QO:Option Int→Hp→Prop} (h:QO none H):qdE σ H QO:=h
theorem vPart {QO:Option Int→Hp→Prop} (h:te σ H fun x H1=>∃ i,x=.int i∧QO (some i) H1):qfl te σ H QO:=h
theorem vExI {i:Int} {P:Int→Prop} (h:P i):∃ j,V.int i=.int j∧P j:=⟨i,rfl,h⟩
theorem vBM {T:String} {f:V→List V→Hp→VK→Prop} (h:te σ H fun x H1=>tyV K T x H1∧tas σ H1 fun xs H2=>f x xs H2 Q):tBM K T f te tas σ H Q:=h
theorem vBM0 {T:String} {f:V→List V→Hp→VK→Prop} (h:te σ H fun x H1=>tyV K T x H1∧f x [] H1 Q):qf1 K T f te σ H Q:=h
theorem vComp {wi:TI} {g:TG} {nl:Nat} {ixs:List Nat} (h:wi σ H fun J H1=>qek J g c te (qds nl ixs σ) H1 Q):qej wi g c te nl ixs σ H Q:=h
theorem vFor {wi:TI} {g:TG} (h:wi σ H fun J H1=>∃ W:Nat→Nat→St→Hp→Prop,(∃ m,W 0 m σ H1)∧∀ i m σ H,W i m σ H →
 (J.stop i H∧D.nx σ H)∨(J.go i H∧∃ N:St→Hp→Prop,(∀ σ' H',N σ' H'→∃ m',m' < m∧W (i + 1) m' σ' H')∧∀ x H',J.yld i H x H'→g x σ H' fun σ2 H2=>t { D with nx:=N,ct:=N,bk:=D.nx } σ2 H2)):qge wi g t D σ H:=h
theorem vRng1 {R:It→Hp→Prop} (h:tas σ H fun vs H1=>∃ j:Int,vs=[.int j]∧-(2 ^ 62)≤j∧j < 2 ^ 62∧R (Itr 0 j.toNat) H1):qfh tas σ H R:=h
theorem vAny {R:It→Hp→Prop} (h:te σ H fun v H1=>match v with
 | .str x=>R (Its x) H1
 | .ref a=>((∃ xs,SqL K H1 a xs)∧R (Itl K a) H1)∨((∃ xs,SqT K H1 a xs)∧R (Itt K a) H1)
 | _=>False):qf5 K te σ H R:=h
theorem vGN {i:Nat} {v:V} {QS:St→Hp→Prop} (h:QS (σ.set i (some v)) H):qcm i v σ H QS:=h
end
section
variable {X:Cx} {K:PySem.W.Frag} {o e:Expr} {es:List Expr} {to ta:TE} {t:TA} {name f:Str} {apos cpos pos:Pos} {T id:String} {r:V→List V→Hp→VK→Prop} {tg:Expr}
theorem jT (hK:X.K=K):zm X (.builtin "len") (qcs K):=by subst hK;exact call_lenU
theorem k_all (hK:X.K=K) (hc:X.calm=true):zm X (.builtin "all") (qgr K):=by subst hK;exact call_all hc
theorem qec (hK:X.K=K):SlR X (qf4 K):=by subst hK;exact u_sl
theorem jU (hK:X.K=K):OpR X (binaryOp .Add) (qdP K):=by subst hK;exact u_add
theorem k_join (hK:X.K=K):MtR X "str.join" (qfq K):=by subst hK;exact mt_join
theorem jo (hK:X.K=K) (he:PE X e ta) (htg:∀ it v,letOwnedTupleGo tg it v=pure ():=by intro _ _;rfl):PI X tg e (qf5 K ta):=by subst hK;exact pi_any he htg
theorem qfs (hK:X.K=K) (pa:PlainAttrs T) (slot:Slot T name id) (hty:typeOf (.builtin id)=pure (.type "method_descriptor")) (hm:MtR X id r) (ho:PE X o to)
  (hbase:attributeBase o name X.env (eval o X.env)=eval o X.env:=by rfl) (hline:(apos.endLine==cpos.line)=true:=by rfl):PE X (.Call (.Attribute o name apos) [] [] cpos) (qf1 K T r to):=by
 subst hK
 exact pe_bm0 pa slot hty hm ho hbase hline
theorem qdt (hK:X.K=K) (pa:PlainAttrs T) (slot:Slot T name id) (hty:typeOf (.builtin id)=pure (.type "method_descriptor")) (hm:MtR X id r) (ho:PE X o to) (ha:PA X (e::es) t)
  (hbase:attributeBase o name X.env (eval o X.env)=eval o X.env:=by rfl)
  (hfew:((backTo cpos (starEach (e::es) X.env)).all (fun x=>!x.1)&&(backToKw cpos (keywordEach [] X.env)).all (fun x=>x.1.isSome)
   && decide ((e::es).length + ([]:List Keyword).length + (if ([]:List Keyword).isEmpty then 0 else 1) < 30))=true:=by rfl)
  (hline:(apos.endLine==cpos.line)=true:=by rfl) (hs:starEach (e::es) X.env=(false,eval e X.env)::starEach es X.env:=by rfl) (hplain:(backTo cpos (starEach es X.env)).any (·.1)=false:=by rfl) :
  PE X (.Call (.Attribute o name apos) (e::es) [] cpos) (tBM K T r to t):=by
 subst hK
 exact pe_bm pa slot hty hm ho ha hbase hfew hline hs hplain
end
structure DefOk (P:Program) (w:World) (K:PySem.W.Frag) (mg:Str→Option Value) (base:Heap) (CX:CXT) (k:Nat) (x:Str) (ps:List Str) (sp:Sp):Prop where
 ex:∃ f fd,FnOk P w K mg base CX k f fd ps sp∧mg x=some (.ref f)∧PySem.W.keepIn K (.ref f)=true∧Binds K fd ps []
section
variable {X:Cx} {CX:CXT} {k:Nat} {ps:List Str} {sp:Sp} {E:XK} {x:Str} {p pos:Pos} {e:Expr} {es:List Expr} {t:TA}
theorem qu (D:DefOk X.prog X.w X.K X.mg X.base CX k x ps sp) (hr:Room k X.A) (hx:zB CX X E) (ha:PA X (e::es) t) (hg:Gl X x:=by rfl) (hdb:(x==("__debug__":Str))=false:=by decide)
  (he:starEach (e::es) X.env=(false,eval e X.env)::starEach es X.env:=by rfl) (hpl:(backTo pos (starEach es X.env)).any (·.1)=false:=by rfl):PE X (.Call (.Name x p) (e::es) [] pos) (qdB sp [] E t):=by
 obtain ⟨f,fd,F,hm,hk,hb⟩:=D.ex
 exact pe_call F hr hg hm hk hb .nil hx ha hdb he hpl
theorem qbr {i:Int} (hg:Gl X x) (hm:∃ tk,X.mg x=some (.int i tk)) (hd:(x==("__debug__":Str))=false:=by decide):PE X (.Name x pos) (tC (.int i)):=by
 obtain ⟨tk,hm⟩:=hm
 exact qcj hg hm ⟨tk,rfl⟩ hd
end
def qdR (t c:String):Bool:=t==c||(t=="bool"&&c=="int")
theorem qav (K:PySem.W.Frag):∀ t∈["NoneType", "bool", "int", "str", "list", "tuple", "dict"],∀ c∈["bool", "int", "str", "list", "tuple", "dict"],PySem.W.kitOne K (.type t) (.type c)=some (qdR t c):=by
 intro t ht c hc
 simp only [List.mem_cons,List.not_mem_nil,or_false] at ht hc
 rcases ht with rfl | rfl | rfl | rfl | rfl | rfl | rfl<;>rcases hc with rfl | rfl | rfl | rfl | rfl | rfl<;>rfl
end L2
namespace L2
open PySem PySem.Spec PyProof.Rows
def qbB:List Value→Bool
 | [.type a,.type b,.type c,.type d]=>a=="ValueError"&&b=="Exception"&&c=="BaseException"&&d=="object"
 | .ref _::r=>qbB r
 | _=>false
def qfR (K:PySem.W.Frag) (C:Addr):Bool:=match K.lookup C with
 | some ⟨.type "type",_,.cls cd,sl⟩=>(match cd.mro,sl.toList with
  | .ref D::bm,[_,_,_,_,some (.builtin n),_]=>D==C&&!cd.hasDel&&qbB bm&&n=="ValueError.__new__"
  | _,_=>false)
 | _=>false
theorem qcY {K:PySem.W.Frag} {h:Heap} {C:Addr} (X:K.In h) (q:qfR K C=true):∃ nm qn N bs bm hdct sn sub ab col dd k0 k1 k2 k3 k5,
  h.get? C=some (excClassObj nm qn C N bs bm hdct sn sub ab col dd k0 k1 k2 k3 k5 "ValueError.__new__")∧qbB bm=true:=by
 unfold qfR at q
 split at q
 ·rename_i dd cd sl ho
  split at q
  ·rename_i D bm k0 k1 k2 k3 n k5 hm hs
   simp only [Bool.and_eq_true,beq_iff_eq,Bool.not_eq_true'] at q
   obtain ⟨⟨⟨e1,e2⟩,e3⟩,e4⟩:=q
   subst e1 e4
   obtain ⟨nm,bs,mro,ns,qn,hd,sn,sub,ab,col,del⟩:=cd
   dsimp only at hm e2
   subst hm e2
   obtain ⟨l⟩:=sl
   dsimp only at hs
   subst hs
   exact ⟨nm,qn,ns,bs,bm,hd,sn,sub,ab,col,dd,k0,k1,k2,k3,k5,X _ _ ho,e3⟩
  ·cases q
 ·cases q
structure XAt (K:PySem.W.Frag) (C:Addr):Prop where
 ga:PySem.W.findIn K (.ref C) "__getattribute__"=some (some (.builtin "BaseException.__getattribute__"))
 gn:PySem.W.findIn K (.ref C) "__getattr__"=some none
 bx:PySem.W.mroIn K C (.type "BaseException")=some true
 ob:PySem.W.mroIn K C (.type "object")=some true
 hd:PySem.W.hasDictIn K C=true
 cl:PySem.W.findIn K (.ref C) "__class__"=some (some (.builtin "object.__class__"))
 cg:PySem.W.specialIn K (.builtin "object.__class__") "__get__"=some (some (.builtin "getset_descriptor.__get__"))
 ct:PySem.W.takesIn K (.builtin "object.__class__")=some true
 sa:PySem.W.findIn K (.ref C) "__setattr__"=some (some (.builtin "object.__setattr__"))
 mr:(PySem.W.clsIn K C).any (fun cd=>qbB cd.mro)=true
 xc:qfR K C=true
theorem bexc_ga_slot:Slot "ValueError" "__getattribute__" "BaseException.__getattribute__":=PySem.F.attr_ValueError.ga
section
variable {prog:Program} {w:World} {A:Around} {E:Value→Shared→Prop} {s:Shared} {K:PySem.W.Frag} {x C:Addr} {ox:Obj} {od:Option Obj} {name:Str} {v:Value}
theorem xga_value {tk:Tok} {Q:Fin→Shared→Prop} (X:K.In s.heap) (I:PySem.W.InstAt s.heap x ox C od) (hf:PySem.W.findObj K C od name=some (.value v)) (h:Q (.done (.ret v)) s) :
  wpAny (model prog w) A (Builtin.«object.__getattribute__» ⟨[.ref x,.str name tk],[]⟩) Q E s:=by
 have F:=PySem.W.looks_find (M:=model prog w) X I hf
 refine wpAny_bind (wpAny_pure (wpAny_bind (wpAny_pure (wpAny_bind (I.type.here (wpAny_bind (F.here ?_)))))))
 exact wpAny_pure h
theorem xga_call {tk:Tok} {R:Result→Shared→Prop} (X:K.In s.heap) (I:PySem.W.InstAt s.heap x ox C od) (hb:PySem.W.mroIn K C (.type "BaseException")=some true)
  (h:wpAny (model prog w) A.in1 (Builtin.«object.__getattribute__» ⟨[.ref x,.str name tk],[]⟩) (fun fin s'=>match fin with | .done f=>R (.ok f) s' | .again c'=>c'.quiet=true∧codeAny (model prog w) A c' R s') (fun e s'=>R (.error e) s') s) :
  codeAny (model prog w) A (.call (.builtin "BaseException.__getattribute__") ⟨[.ref x,.str name tk],[]⟩) R s:=by
 refine codeAny_call_builtin bexc_ga_slot.plain PySem.F.entry_bexc_ga ?_
 exact @PySem.W.check_slot (model prog w) _ _ s "BaseException.__getattribute__" "BaseException" "__getattribute__" (.ref x) [.str name tk] [] _ (by decide +kernel) (by decide +kernel) (I.type.andThen (PySem.W.looks_mroIn X hb)) (PySem.F.args_bexc_ga _ _) h
theorem qdS {fill expr:Bool} {tk:Tok} {Q:Value→Shared→Prop} (X:K.In s.heap) (I:PySem.W.InstAt s.heap x ox C od) (c:XAt K C)
  (h:wpAny (model prog w) A.in1 (Builtin.«object.__getattribute__» ⟨[.ref x,.str name tk],[]⟩) (fun fin s'=>match fin with | .done (.ret v)=>wpAny (model prog w) A (handedOut v) Q E s' | _=>False) (fun _ _=>False) s) :
  wpAny (model prog w) A (getAttrBy (.ref x) (.str name tk) fill expr) Q E s:=by
 unfold getAttrBy
 refine wpAny_holding (wpAny_bind (I.type.here (wpAny_bind ((PySem.W.looks_findIn X c.ga).here ?_))))
 have e1:(onTheHeap (Value.ref C)&&Value.builtin "BaseException.__getattribute__"==Value.builtin "object.__getattribute__")=false:=by
  rw [show (Value.builtin "BaseException.__getattribute__"==Value.builtin "object.__getattribute__")=false by decide +kernel]
  rfl
 dsimp only
 rw [e1,if_neg (by decide)]
 unfold getAttrByItsOwn hookBefore
 rw [if_pos (show onTheHeap (Value.ref C)=true from rfl)]
 refine wpAny_bind ((PySem.W.looks_findIn X c.gn).here (wpAny_bind (wpAny_attempt (wpAny_holding ?_))))
 have e2:(expr&&onTheHeap (Value.builtin "BaseException.__getattribute__"))=false:=by cases expr<;>rfl
 unfold callGetattribute
 rw [e2,if_neg (by decide)]
 unfold boundAndCalled
 rw [bexc_ga_slot.bind]
 refine wpAny_bind (wpAny_pure ?_)
 show wpAny _ _ (call (.builtin "BaseException.__getattribute__") [.ref x,.str name tk]) _ _ _
 refine wpAny_call (xga_call X I c.bx (wpAny_mono h (fun fin s' z=>?_) fun _ _ z=>z.elim))
 rcases fin with (_ | _ | _ | _) | _<;>first | exact z | exact z.elim
theorem xget {expr:Bool} {Q:Value→Shared→Prop} (X:K.In s.heap) (I:PySem.W.InstAt s.heap x ox C od) (c:XAt K C) (hf:PySem.W.findObj K C od name=some (.value v)) (hh:PySem.W.handedIn v=true)
  (h:Q v { s with toks:=s.toks + 1 }):wpAny (model prog w) A (getAttr (.ref x) name expr) Q E s:=by
 unfold getAttr
 refine wpAny_bind (wpAny_mkText (qdS (s:={ s with toks:=s.toks + 1 }) X I c (xga_value (s:={ s with toks:=s.toks + 1 }) X I hf ?_)))
 show wpAny _ _ (handedOut v) _ _ _
 rw [PySem.W.handedOut_of hh]
 exact wpAny_pure h
theorem xclass {Q:Option Value→Shared→Prop} (X:K.In s.heap) (I:PySem.W.InstAt s.heap x ox C od) (c:XAt K C) (hf:PySem.W.findObj K C od "__class__"=some (.bind (.builtin "getset_descriptor.__get__") (.builtin "object.__class__")))
  (h:Q (some (.ref C)) { s with toks:=s.toks + 1 }):wpAny (model prog w) A (getAttr? (.ref x) "__class__") Q E s:=by
 unfold getAttr? getAttrBy?
 refine wpAny_bind (wpAny_mkText (wpAny_bind (wpAny_attempt (qdS (s:={ s with toks:=s.toks + 1 }) X I c ?_))))
 have F:=PySem.W.looks_find (M:=model prog w) X I hf
 refine wpAny_bind (wpAny_pure (wpAny_bind (wpAny_pure (wpAny_bind (I.type.here (s:={ s with toks:=s.toks + 1 }) (wpAny_bind (F.here (s:={ s with toks:=s.toks + 1 }) ?_)))))))
 show wpAny _ _ (holding [Value.builtin "object.__class__"] (call (.builtin "getset_descriptor.__get__") [.builtin "object.__class__",.ref x,.ref C])>>=ret) _ _ _
 refine wpAny_bind (wpAny_holding (wpAny_call (PySem.W.class_get (s:={ s with toks:=s.toks + 1 }) X I c.ob ?_)))
 refine wpAny_pure ?_
 show wpAny _ _ (handedOut (.ref C)) _ _ _
 exact wpAny_pure (wpAny_pure h)
theorem findObj_class (c:XAt K C):PySem.W.findObj K C od "__class__"=some (.bind (.builtin "getset_descriptor.__get__") (.builtin "object.__class__")):=by
 obtain ⟨cd,hc,_⟩:=PySem.W.any_some c.hd
 unfold PySem.W.findObj
 rw [hc,Option.bind_some,c.cl,Option.bind_some]
 simp [c.cg,c.ct]
theorem qcZ {od:Option Obj} (c:XAt K C):PySem.W.KitX K (.ref x) (.ref C) (fun h=>PySem.W.InstAt h x ox C od) where
 ty:=fun _ _ _ I=>I.type
 it:=fun _ _ X _=>by
  obtain ⟨cd,hc,_⟩:=PySem.W.any_some c.hd
  unfold PySem.W.clsIn at hc
  split at hc
  ·rename_i c1 d1 cd1 sl1 ho
   intro A' Q' E' s' k q
   unfold isType loadHead
   exact wpAny_bind (wpAny_loadPart (k _ _ (X _ _ ho)) (wpAny_pure q))
  ·cases hc
 ne:=fun h tp dd its n sl X htp=>by
  obtain ⟨cd,hc,_⟩:=PySem.W.any_some c.hd
  refine Bool.eq_false_iff.mpr fun q=>?_
  have e:C=tp:=Value.ref.inj (beq_iff_eq.mp q)
  subst e
  unfold PySem.W.clsIn at hc
  split at hc
  ·rename_i c1 d1 cd1 sl1 ho
   have z:=(X _ _ ho).symm.trans htp
   cases z
  ·cases hc
 ca:=fun X I k=>xclass X I c (findObj_class c) k
end
end L2
namespace L2
open PySem PySem.Spec PyProof.Rows
theorem qbX {c:Addr} {r:List Value} (e:qbB (.ref c::r)=true):qbB r=true:=by
 cases r with
 | nil=>cases e
 | cons a r=>exact e
theorem qah:∀ {l:List Value},qbB l=true→∃ rs:List Addr,l=rs.map Value.ref++[.type "ValueError",.type "Exception",.type "BaseException",.type "object"]
 | [],e=>by cases e
 | .ref c::r,e=>by
  obtain ⟨rs,q⟩:=qah (qbX e)
  exact ⟨c::rs,by rw [q];rfl⟩
 | .type a::r,e=>by
  match r,e with
  | [.type b,.type c,.type d],e =>
   simp only [qbB,Bool.and_eq_true,beq_iff_eq] at e
   obtain ⟨⟨⟨rfl,rfl⟩,rfl⟩,rfl⟩:=e
   exact ⟨[],rfl⟩
theorem refuse_exc (self:Value) {l:List Value} (e:qbB l=true):refuseLoop self "__setattr__" l=pure ():=by
 obtain ⟨rs,rfl⟩:=qah e
 induction rs with
 | nil=>exact PySem.F.store_ValueError.passes self
 | cons c rs ih=>rw [List.map_cons,List.cons_append,refuseLoop_ref];exact ih (qbX e)
theorem qai {l:List Value} (e:qbB l=true) {T:String} (h:T∈["ValueError", "Exception", "BaseException", "object"]):l.contains (.type T)=true:=by
 obtain ⟨rs,rfl⟩:=qah e
 rw [List.contains_iff_mem]
 refine List.mem_append_right _ ?_
 simp only [List.mem_cons,List.not_mem_nil,or_false] at h ⊢
 rcases h with rfl | rfl | rfl | rfl<;>simp
section
variable {prog:Program} {w:World} {A:Around} {E:Value→Shared→Prop} {s:Shared} {K:PySem.W.Frag} {x C:Addr} {name:Str} {v:Value} {R:Result→Shared→Prop}
theorem xosa {tk:Tok} {ox:Obj} {od:Option Obj} (X:K.In s.heap) (I:PySem.W.InstAt s.heap x ox C od) (c:XAt K C) (n:NoAttr K C name)
  (h:wpAny (model prog w) A.in1 (Builtin.ObjectAttr.storeInOwnDict (.ref x) (.ref C) (.str name tk) name v false)
   (fun fin s'=>match fin with | .done f=>R (.ok f) s' | .again c'=>c'.quiet=true∧codeAny (model prog w) A c' R s') (fun e s'=>R (.error e) s') s) :
  codeAny (model prog w) A (.call (.builtin "object.__setattr__") ⟨[.ref x,.str name tk,v],[]⟩) R s:=by
 have SF:=PySem.F.store_object
 obtain ⟨cd,hc,ho⟩:=PySem.W.any_some c.mr
 have hm:PySem.W.Looks (model prog w) s.heap (mroOf (.ref C)) cd.mro:=(PySem.W.looks_clsIn X hc).andThen .now
 refine codeAny_call_builtin SF.slot.plain SF.entry (@PySem.W.check_slot (model prog w) _ _ s "object.__setattr__" "object" "__setattr__" (.ref x) [.str name tk,v] [] _ SF.kind SF.split (I.type.andThen (PySem.W.looks_mroIn X c.ob)) (SF.args (.ref x) (.str name tk) v) ?_)
 rw [PySem.W.osa_eq,refuse_eq]
 refine wpAny_bind (wpAny_bind (I.type.here (wpAny_bind (hm.here ?_))))
 rw [refuse_exc _ ho]
 refine wpAny_pure (wpAny_bind (I.type.here (wpAny_bind ((PySem.W.looks_findIn X n).here (wpAny_bind (wpAny_pure ?_))))))
 exact h
theorem xset {vs:Array Value} (X:K.In s.heap) (hx:s.heap.get? x=some ⟨.ref C,none,.fields vs,#[]⟩) (c:XAt K C) (n:NoAttr K C name) {Q:Unit→Shared→Prop}
  (h:∀ h',h'.get? x=some ⟨.ref C,some s.heap.objs.size,.fields vs,#[]⟩→h'.Ns1 s.heap.objs.size (fun y=>if y=name then some v else none)→(∀ b o,b≠x→s.heap.get? b=some o→h'.get? b=some o) →
   Q () { s with heap:=h',toks:=s.toks + 2 }):wpAny (model prog w) A (setAttr (.ref x) name v) Q E s:=by
 have I:PySem.W.InstAt s.heap x ⟨.ref C,none,.fields vs,#[]⟩ C none:=⟨hx,rfl,rfl,True.intro⟩
 obtain ⟨cd,hc,hd⟩:=PySem.W.any_some c.hd
 refine PySem.W.set_plain X I c.sa (xosa (s:={ s with toks:=s.toks + 1 }) X I c n ?_)
 refine wpAny_bind (wpAny_pure (wpAny_bind (wpAny_bind (wpAny_loadPart hx (wpAny_bind ((PySem.W.looks_clsIn X hc).here (s:={ s with toks:=s.toks + 1 }) ?_))))))
 rw [hd]
 obtain ⟨hh,g,dr,tk,os⟩:=s
 show wpAny _ _ (alloc { cls:=.type "dict",data:=.dict #[] }>>=fun d=>update x (fun o=>{ cls:=o.cls,dict:=some d,data:=o.data,slots:=o.slots })>>=fun _=>pure (some d)) _ _ _
 have hxs:x≠hh.objs.size:=Nat.ne_of_lt (Heap.lt_size hx)
 have hx1:=Heap.get?_push_of_some { cls:=.type "dict",data:=.dict #[] } hx
 refine wpAny_bind (wpAny_alloc' (wpAny_bind (wpAny_update' hx1 (wpAny_pure ?_))))
 have hx2:=Heap.get?_update_self (fun o:Obj=>{ cls:=o.cls,dict:=some hh.objs.size,data:=o.data,slots:=o.slots }) hx1 rfl
 have hd2:=(Heap.get?_update_ne (hh.push { cls:=.type "dict",data:=.dict #[] }) hh.objs.size x (fun o:Obj=>{ cls:=o.cls,dict:=some hh.objs.size,data:=o.data,slots:=o.slots }) hxs.symm).trans (Heap.get?_push_at rfl rfl)
 generalize hg:(hh.push { cls:=.type "dict",data:=.dict #[] }).update x (fun o:Obj=>{ cls:=o.cls,dict:=some hh.objs.size,data:=o.data,slots:=o.slots })=h2 at hx2 hd2 ⊢
 have nd:h2.Ns hh.objs.size (fun _=>none):=⟨_,#[],_,hd2,rfl,fun e he=>absurd he (by simp),fun _=>rfl⟩
 show wpAny _ _ (Builtin.ObjectAttr.storeInDict hh.objs.size (.str name tk) name v) _ _ _
 unfold Builtin.ObjectAttr.storeInDict Builtin.ObjectAttr.newKeyGuard
 refine wpAny_bind (wpAny_pure (wpAny_bind (wpAny_nsSet1 (Heap.Ns1.of_empty nd) fun h' n2 sb=>?_)))
 obtain ⟨oD,esD,epD,hoD,hdD,hcD⟩:=n2.count (PySem.Within.cons name v PySem.Within.nil)
 have hz:esD.size≤sizeLine:=Nat.le_trans hcD (by rw [List.length_cons,List.length_nil,sizeLine_eq];omega)
 refine wpAny_bind (wpAny_lookBehind hoD (by rw [hdD];exact pastItsLine_dict (Nat.le_succ_of_le hz)) ?_)
 refine wpAny_pure (h h' ((sb.2 x hxs).trans hx2) n2 fun b o hb e=>(sb.2 b (Nat.ne_of_lt (Heap.lt_size e))).trans ?_)
 rw [← hg]
 exact (Heap.get?_update_ne _ _ _ _ hb).trans (Heap.get?_push_of_some _ e)
theorem ve_check {M:Model} {ox:Obj} {u:Value} {Q:Unit→Shared→Prop} (X:K.In s.heap) (c:XAt K C) (hx:s.heap.get? x=some ox) (hcls:ox.cls=.ref C) (q:Q () s) :
  wpAny M A (checkBuiltinCall "ValueError.__init__" ⟨[.ref x,u],[]⟩) Q E s:=by
 have F:=PySem.F.excBase_ValueError
 have hshort:=F.noStar
 obtain ⟨nm,qn,N,bs,bm,hdct,sn,sub,ab,col,dd,k0,k1,k2,k3,k5,hC,hm⟩:=qcY X c.xc
 have hcB:(Value.ref C::bm).contains (.type "ValueError")=true:=by rw [List.contains_cons,qai hm (by simp),Bool.or_true]
 obtain ⟨hh,g,dr,tk,os⟩:=s
 simp only [checkBuiltinCall,F.initKind,F.initSplit,F.initRow]
 repeat (first | (with_reducible refine wpAny_loadPart_at hx ?_;rw [hcls]) | with_reducible refine wpAny_loadPart_at hC ?_ | (with_reducible refine wpAny_isSubtype_exc hC ?_;rw [hcB]) | wp_step)
 exact q
abbrev xfs (a0:Addr):Array Value:=#[.ref a0,.none,.none,.none,.bool false,.none]
theorem xbase_init {a0:Addr} {u:Value} (X:K.In s.heap) (hx:s.heap.get? x=some ⟨.ref C,none,.fields (xfs a0),#[]⟩) (c:XAt K C) {Q:Value→Shared→Prop}
  (h:∀ h' a1,h'.get? x=some ⟨.ref C,none,.fields (xfs a1),#[]⟩→(∀ b o,b≠x→s.heap.get? b=some o→h'.get? b=some o)→Q .none { s with heap:=h' }) :
  wpAny (model prog w) A (call (.builtin "ValueError.__init__") [.ref x,u]) Q E s:=by
 have F:=PySem.F.excBase_ValueError
 refine wpAny_call (codeAny_call_builtin F.init.plain F.initEntry (ve_check X c hx rfl ?_))
 obtain ⟨hh,g,dr,tk,os⟩:=s
 wp_walk
 refine h _ hh.objs.size ?_ fun b o hb e=>?_
 ·rw [Heap.get?_update_self _ (Heap.get?_push_of_some _ hx) rfl]
  rfl
 ·rw [Heap.get?_update_other _ _ (Ne.symm hb)]
  exact Heap.get?_push_of_some _ e
end
end L2
namespace L2
open PySem PySem.Spec PyProof.Rows
theorem qc0 {l:List Value} (e:qbB l=true) {T:String} (h:T∉["ValueError", "Exception", "BaseException", "object"]):l.contains (.type T)=false:=by
 obtain ⟨rs,rfl⟩:=qah e
 refine Bool.eq_false_iff.mpr fun q=>?_
 rcases List.mem_append.mp (List.contains_iff_mem.mp q) with z | z
 ·obtain ⟨a,_,q⟩:=List.mem_map.mp z
  cases q
 ·simp only [List.mem_cons,List.not_mem_nil,or_false,Value.type.injEq] at z h
  exact h z
section
variable {prog:Program} {w:World} {A:Around} {R:Result→Shared→Prop} {E:Value→Shared→Prop} {h:Heap} {g:Array GenState} {d:Drawn} {t:Nat} {os:OsState}
variable {nm q:Str} {C N:Addr} {bs bm:List Value} {hdct:Bool} {sn:List Str} {sub:List Value} {ab:Bool} {col:Option Bool} {dd:Option Addr} {k0 k1 k2 k3 k5:Option Value}
theorem xnew_check {M:Model} {rest:List Value} {Q:Unit→Shared→Prop} (hC:h.get? C=some (excClassObj nm q C N bs bm hdct sn sub ab col dd k0 k1 k2 k3 k5 "ValueError.__new__")) (hm:qbB bm=true) (hq:Q () ⟨h,g,d,t,os⟩) :
  wpAny M A (checkBuiltinCall "ValueError.__new__" ⟨.ref C::rest,[]⟩) Q E ⟨h,g,d,t,os⟩:=by
 have F:=PySem.F.excBase_ValueError
 have hcont:(Value.ref C::bm).contains (.type "ValueError")=true:=by rw [List.contains_cons,qai hm (by simp),Bool.or_true]
 have hstar:=F.noStar
 simp only [checkBuiltinCall,F.newKind,F.newSplit,F.newRow]
 repeat (first | refine wpAny_loadPart_at hC ?_ | (refine wpAny_isSubtype_exc hC ?_;rw [hcont]) | refine wpAny_staticBase_exc hC ?_ | refine wpAny_madeBy_exc hC ?_ | simp only [bne_self_eq_false,Bool.false_eq_true,if_false] | wp_step)
 exact hq
theorem xnew {rest:List Value} (hC:h.get? C=some (excClassObj nm q C N bs bm hdct sn sub ab col dd k0 k1 k2 k3 k5 "ValueError.__new__")) (hm:qbB bm=true) (hrest:rest.length≤sizeLine)
  (hq:R (.ok (.ret (.ref (h.objs.size + 1)))) ⟨(h.push { cls:=.type "tuple",data:=.seq rest.toArray }).push { cls:=.ref C,data:=.fields (xfs h.objs.size) },g,d,t,os⟩) :
  codeAny (model prog w) A (.builtin "ValueError.__new__" ⟨.ref C::rest,[]⟩) R ⟨h,g,d,t,os⟩:=by
 have F:=PySem.F.excBase_ValueError
 have hends:=F.ends
 have hcB:(Value.ref C::bm).contains (.type "ValueError")=true:=by rw [List.contains_cons,qai hm (by simp),Bool.or_true]
 have hcA:(Value.ref C::bm).contains (.type "AttributeError")=false:=by rw [List.contains_cons,qc0 hm (by simp)];rfl
 have hcN:(Value.ref C::bm).contains (.type "NameError")=false:=by rw [List.contains_cons,qc0 hm (by simp)];rfl
 refine codeAny_builtinAt F.entry ?_
 unfold Builtin.«BaseException.__new__»
 refine PySem.wpAt_bind ?_
 show PySem.wpAt _ _ _ (stack>>=_) _ _ _
 refine PySem.wpAt_bind (PySem.wpAt_stack fun p0 below0=>PySem.wpAt_of_wpAny ?_)
 wp_walk
 refine PySem.wpAt_of_wpAny ?_
 rw [F.owner]
 repeat (first | with_reducible refine wpAny_madeHere_exc F.canon hC ?_ | with_reducible refine wpAny_loadPart_at hC ?_ | (with_reducible refine wpAny_isSubtype_exc hC ?_;first | rw [hcB] | rw [hcA] | rw [hcN]) | wp_step)
 show R _ _
 rw [Heap.size_push]
 exact hq
theorem xtype_call {K:PySem.W.Frag} {f:Addr} {rest:List Value} {Q:Fin→Shared→Prop} (X:K.In h) (hC:h.get? C=some (excClassObj nm q C N bs bm hdct sn sub ab col dd k0 k1 k2 k3 k5 "ValueError.__new__")) (hm:qbB bm=true)
  (hi:PySem.W.findIn K (.ref C) "__init__"=some (some (.ref f))) (hf:PySem.W.isFn K (.ref f)=true) (hrest:rest.length≤sizeLine)
  (hq:wpAny (model prog w) A (call (.ref f) (.ref (h.objs.size + 1)::rest)) (fun r s'=>r=.none∧Q (.done (.ret (.ref (h.objs.size + 1)))) s') E
   ⟨(h.push { cls:=.type "tuple",data:=.seq rest.toArray }).push { cls:=.ref C,data:=.fields (xfs h.objs.size) },g,d,t,os⟩) :
  wpAny (model prog w) A (Builtin.«type.__call__» ⟨.ref C::rest,[]⟩) Q E ⟨h,g,d,t,os⟩:=by
 have F:=PySem.F.excBase_ValueError
 repeat (first | with_reducible refine wpAny_loadPart_at hC ?_ | with_reducible refine wpAny_madeBy_exc hC ?_ | wp_step)
 refine codeAny_call_builtin_code (Code.quiet_builtin _ F.quiet) (xnew_check hC hm (xnew hC hm hrest ?_))
 show wpAny _ _ _ _ _ _
 have up:∀ b o,h.get? b=some o→((h.push { cls:=.type "tuple",data:=.seq rest.toArray }).push { cls:=.ref C,data:=.fields (xfs h.objs.size) }).get? b=some o:=fun b o e=>Heap.get?_push_of_some _ (Heap.get?_push_of_some _ e)
 have hC1:=up _ _ hC
 have hget:((h.push { cls:=.type "tuple",data:=.seq rest.toArray }).push { cls:=.ref C,data:=.fields (xfs h.objs.size) }).get? (h.objs.size + 1)=some { cls:=.ref C,data:=.fields (xfs h.objs.size) }:=Heap.get?_push_at (by rw [Heap.size_push]) rfl
 have X1:K.In ((h.push { cls:=.type "tuple",data:=.seq rest.toArray }).push { cls:=.ref C,data:=.fields (xfs h.objs.size) }):=X.keeps up
 have hcC:(Value.ref C::bm).contains (.ref C)=true:=by simp
 unfold isInstance
 repeat (first | with_reducible refine wpAny_loadPart_at hget ?_ | (with_reducible refine wpAny_isSubtype_exc hC1 ?_;rw [hcC]) | wp_step)
 show wpAny _ _ (typeLookup (.ref C) _) _ _ _
 refine (PySem.W.looks_findIn X1 hi).at (wpAny_holding (wpAny_bind ((PySem.W.bind_fn X1 _ (beq_iff_eq.mp hf)).at (wpAny_bind (wpAny_mono hq (fun r s' hr=>?_) fun _ _ z=>z)))))
 obtain ⟨rfl,hQ⟩:=hr
 wp_walk
 exact hQ
theorem xcall {K:PySem.W.Frag} {f:Addr} {rest:List Value} {s:Shared} {Q:Value→Shared→Prop} (X:K.In s.heap) (c:XAt K C) (hi:PySem.W.findIn K (.ref C) "__init__"=some (some (.ref f))) (hf:PySem.W.isFn K (.ref f)=true) (hrest:rest.length≤sizeLine)
  (hq:wpAny (model prog w) (A.under (.builtin "type.__call__" ⟨.ref C::rest,[]⟩)) (call (.ref f) (.ref (s.heap.objs.size + 1)::rest)) (fun r s'=>r=.none∧Q (.ref (s.heap.objs.size + 1)) s') E
   { s with heap:=(s.heap.push { cls:=.type "tuple",data:=.seq rest.toArray }).push { cls:=.ref C,data:=.fields (xfs s.heap.objs.size) } }) :
  wpAny (model prog w) A (call (.ref C) rest) Q E s:=by
 obtain ⟨nm,qn,N,bs,bm,hdct,sn,sub,ab,col,dd,k0,k1,k2,k3,k5,hC,hm⟩:=qcY X c.xc
 obtain ⟨h,g,d,t,os⟩:=s
 have f1:=tc_lookup
 have f2:=tc_bind (.ref C)
 have hT:(⟨h,g,d,t,os⟩:Shared).TypeIs (.ref C) "type":=⟨_,hC,rfl⟩
 refine wpAny_call (codeAny_of_tree ?_)
 show wpAny _ _ (callAny (.ref C) _) _ _ _
 repeat (any_goals (first | assumption | with_reducible refine wpAny_loadPart_at hC ?_ | wp_step))
 refine ⟨rfl,?_⟩
 exact codeAny_call_builtin_at (Code.quiet_builtin _ (by decide +kernel)) entry_typeCall (wpAny_check_type_call_sub hC (xtype_call X hC hm hi hf hrest hq))
end
end L2
namespace L2
open PySem PySem.Spec PyProof.Rows
def XN (e C:Addr) (dx:Option Addr):HO:=.ext fun h=>∃ a0,h.get? e=some ⟨.ref C,dx,.fields (xfs a0),#[]⟩
def XO (e C:Addr) (dx:Option Addr):HO:=.ext fun h=>∃ vs,h.get? e=some ⟨.ref C,dx,.fields vs,#[]⟩
theorem XN.ok {P:Program} {w:World} {H:Hp} {h:Heap} {e C a0:Addr} {dx:Option Addr} (q:h.get? e=some ⟨.ref C,dx,.fields (xfs a0),#[]⟩):ObjOk P w H h e (XN e C dx):=
 ⟨⟨a0,q⟩,⟨_,q⟩,fun _ _ ⟨a,x⟩ k=>⟨a,k _ x⟩⟩
theorem XO.ok {P:Program} {w:World} {H:Hp} {h:Heap} {e C:Addr} {vs:Array Value} {dx:Option Addr} (q:h.get? e=some ⟨.ref C,dx,.fields vs,#[]⟩):ObjOk P w H h e (XO e C dx):=
 ⟨⟨vs,q⟩,⟨_,q⟩,fun _ _ ⟨a,x⟩ k=>⟨a,k _ x⟩⟩
def IsX (H:Hp) (e C:Addr) (dx:Option Addr):Prop:=H e=some (XN e C dx)∨H e=some (XO e C dx)
theorem IsX.get {P:Program} {w:World} {H:Hp} {h:Heap} {e C:Addr} {dx:Option Addr} (q:IsX H e C dx) (hok:HOk P w H h):∃ vs,h.get? e=some ⟨.ref C,dx,.fields vs,#[]⟩:=by
 rcases q with q | q
 ·obtain ⟨⟨a,x⟩,_⟩:=(show ObjOk P w H h e (XN e C dx) from hok e _ q)
  exact ⟨_,x⟩
 ·obtain ⟨⟨a,x⟩,_⟩:=(show ObjOk P w H h e (XO e C dx) from hok e _ q)
  exact ⟨_,x⟩
theorem upd_id {H:Hp} {a:Addr} {o:HO} (h:H a=some o):upd H a o=H:=by
 funext b
 unfold upd
 split
 ·rename_i e;subst e;exact h.symm
 ·rfl
section
variable {X:Cx} {pins:List (Addr×Obj)} {σ:St} {H:Hp} {s:Shared} {e C:Addr} {dx:Option Addr}
theorem qet (I:Inv X pins σ H s) {d:Addr} {fs:List (Str×V)} (h:H d=some (.xd fs)):∃ (od:Obj) (mA:Str→Option Value),s.heap.get? d=some od∧(∀ name,PySem.W.lookIn name od=some (mA name))∧∀ f,RelO (fs.lookup f) (mA f):=by
 obtain ⟨mA,n,r⟩:=(show ObjOk X.prog X.w H s.heap d (.xd fs) from I.hok d _ h)
 obtain ⟨od,h1,h2⟩:=qbI n
 exact ⟨od,mA,h1,h2,r⟩
end
section
variable {X:Cx} {pins:List (Addr×Obj)} {σ:St} {H:Hp} {s:Shared} {a d:Addr} {h':Heap} {o u:HO} {t':Nat}
theorem Inv.both (I:Inv X pins σ H s) (mu:Mut (H a)) (hd:s.heap.objs.size≤d) (k:∀ b v,b≠a→s.heap.get? b=some v→h'.get? b=some v) (ha:∃ v,h'.get? a=some v)
  (n1:ObjOk X.prog X.w (upd (upd H d u) a o) h' a o) (n2:ObjOk X.prog X.w (upd (upd H d u) a o) h' d u) (ne:d≠a):Inv X pins σ (upd (upd H d u) a o) { s with heap:=h',toks:=t' }:=by
 have nd:H d=none:=I.hok.fresh hd
 have na:∀ b q,H b=some q→¬ Mut (some q)→b≠a:=fun b q e nm z=>by subst z;rw [e] at mu;exact nm mu
 have nn:∀ b,H b=none→b≠a:=fun b e z=>by subst z;rw [e] at mu;exact mu
 have big:∀ b v,s.heap.get? b=some v→b≠d:=fun b v e=>Nat.ne_of_lt (Nat.lt_of_lt_of_le (Heap.lt_size e) hd)
 have up:∀ b q,H b=some q→b≠a→upd (upd H d u) a o b=some q:=fun b q e n=>by rw [qi n,qi (qx e nd)];exact e
 refine I.un ⟨fun b v e n _ _=>k b v (nn b n) e,fun b v e n _ _=>⟨v.slots,k b v (nn b n) e⟩,fun b v e n _=>by rw [qi (nn b n),qi (big b v e)];exact n,fun b v e _=>?_,fun b xs e=>up b _ e (na b _ e fun z=>z),fun b q xs e=>up b _ e (na b _ e fun z=>z),
  fun b ps e=>⟨#[],by rw [up b _ e (na b _ e fun z=>z)];simp⟩⟩ fun b q e=>?_
 ·by_cases hb:b=a
  ·subst hb;exact ha
  ·exact ⟨v,k b v hb e⟩
 ·by_cases hb:b=a
  ·subst hb
   rw [qb] at e
   cases e
   exact n1
  ·rw [qi hb] at e
   by_cases hbd:b=d
   ·subst hbd
    rw [qb] at e
    cases e
    exact n2
   ·rw [qi hbd] at e
    refine (I.hok b q e).stay (fun c v hc r=>k c v ?_ r) (fun c r=>up c _ r (na c _ r fun z=>z)) fun c xs r=>up c _ r (na c _ r fun z=>z)
    rcases hc with rfl | hc
    ·exact hb
    ·exact na c _ hc fun z=>z
end
def qft (K:PySem.W.Frag) (ta:TE) (f:Str):TE:=fun σ H Q=>ta σ H fun x H1=>(∃ a C dx fs v,x=.ref a∧H1 a=some (.ins C dx fs)∧Cls K C∧NoAttr K C f∧fs.lookup f=some v∧Q v H1) ∨
 (∃ a C dx fs v,x=.ref a∧IsX H1 a C (some dx)∧XAt K C∧NoAttr K C f∧H1 dx=some (.xd fs)∧fs.lookup f=some v∧Q v H1)
def qfu (K:PySem.W.Frag) (ta tv:TE) (f:Str):TS:=fun D σ H=>tv σ H fun y H1=>ta σ H1 fun x H2=>(∃ a C dx fs,x=.ref a∧H2 a=some (.ins C dx fs)∧Cls K C∧NoAttr K C f∧fs.length < 1000 ∧
  D.nx σ (upd H2 a (.ins C dx (jF f y fs)))) ∨
 (∃ a C,x=.ref a∧H2 a=some (XN a C none)∧XAt K C∧NoAttr K C f∧∀ dx,H2 dx=none→D.nx σ (upd (upd H2 dx (.xd [(f,y)])) a (XN a C (some dx))))
section
variable {X:Cx} {o e value:Expr} {f:Str} {pos pos':Pos} {ta tv:TE} {K:PySem.W.Frag}
theorem j3 (hK:X.K=K) (he:PE X e ta) (hb:attributeBase e f X.env (eval e X.env)=eval e X.env):PE X (.Attribute e f pos) (qft K ta f):=by
 subst hK
 intro pins s σ H Q I h
 refine attr_of hb (thn (he pins s σ H _ I h) fun u s1 ⟨x,H1,I1,rx,hx⟩=>?_)
 rcases hx with ⟨a,C,dx,fs,v,rfl,ea,c,n,l,q⟩ | ⟨a,C,dx,fs,v,rfl,ea,c,n,hd,l,q⟩
 ·obtain rfl:u=Value.ref a:=rx
  exact getattr_ok I1 ea c n l fun u' s2 I2 ru=>⟨v,H1,I2,ru,q⟩
 ·obtain rfl:u=Value.ref a:=rx
  obtain ⟨vs,hx⟩:=ea.get I1.hok
  obtain ⟨od,mA,h1,h2,r⟩:=qet I1 hd
  obtain ⟨u',hu,ru⟩:=RelO.some_of (v:=v) (o:=mA f) (by rw [← l];exact r f)
  exact xget I1.kIn (od:=some od) ⟨hx,rfl,rfl,h1⟩ c (PySem.W.findObj_own c.hd n rfl (by rw [h2,hu])) (qbJ ru) ⟨v,H1,I1.tok _,ru,q⟩
theorem zf (hK:X.K=K) (ha:PE X o ta) (hv:PE X value tv) (hs:swapsWith value (some (.Attribute o f pos')) pos.line X.env=pure false):PS X (.Assign [.Attribute o f pos'] value pos) (qfu K ta tv f):=by
 subst hK
 intro pins s σ H D I h
 refine plainObj_wpAny_Assign_Attribute (thn (hv pins s σ H _ I h) fun u s1 ⟨y,H1,I1,ry,q⟩=>thn (ha pins s1 σ H1 _ I1 q) fun ov s2 ⟨x,H2,I2,rx,hx⟩=>?_) hs
 rcases hx with ⟨a,C,dx,fs,rfl,ea,c,n,l,q2⟩ | ⟨a,C,rfl,ea,c,n,q2⟩
 ·obtain rfl:ov=Value.ref a:=rx
  exact setattr_ok I2 ea c n l ry fun s3 I3=>⟨σ,_,I3,q2⟩
 ·obtain rfl:ov=Value.ref a:=rx
  obtain ⟨⟨a0,hx⟩,_⟩:=(show ObjOk X.prog X.w H2 s2.heap a (XN a C none) from I2.hok a _ ea)
  refine xset I2.kIn hx c n fun h' g1 g2 g3=>?_
  have nd:H2 s2.heap.objs.size=none:=I2.hok.fresh (Nat.le_refl _)
  have ne:s2.heap.objs.size≠a:=Nat.ne_of_gt (Heap.lt_size hx)
  refine ⟨σ,_,I2.both (o:=XN a C (some s2.heap.objs.size)) (u:=.xd [(f,y)]) (by rw [ea];exact True.intro) (Nat.le_refl _) g3 ⟨_,g1⟩ (XN.ok g1) ⟨_,g2,fun g=>?_⟩ ne,q2 _ nd⟩
  by_cases hg:g=f
  ·subst hg
   simp only [List.lookup,beq_self_eq_true,if_true]
   exact ry
  ·have hb:(g==f)=false:=beq_eq_false_iff_ne.mpr hg
   simp only [List.lookup,hb,if_neg hg]
   exact True.intro
end
def qdT (C:Addr) (sp:Sp) (E:XK) (t:TA):TE:=fun σ H Q=>t σ H fun vs H1=>vs.length≤1000∧∀ x,H1 x=none→sp (.ref x::vs) (upd H1 x (XN x C none)) (fun v H2=>v=.non∧Q (.ref x) H2) E
structure XMk (K:PySem.W.Frag) (C f:Addr):Prop where
 at_:XAt K C
 init:PySem.W.findIn K (.ref C) "__init__"=some (some (.ref f))
 fn:PySem.W.isFn K (.ref f)=true
 kp:PySem.W.keepIn K (.ref C)=true
section
variable {X:Cx} {CX:CXT} {k:Nat} {f C:Addr} {fd:FuncData} {ps:List Str} {sp:Sp} {E:XK} {x m:Str} {p pos apos:Pos} {e o:Expr} {es:List Expr} {ta:TE} {t:TA}
theorem run_xmake {pins:List (Addr×Obj)} {σ:St} {H:Hp} {s:Shared} {Q:VK} {us:List Value} {vs:List V} (M:XMk X.K C f) (F:FnOk X.prog X.w X.K X.mg X.base CX k f fd ps sp) (hr:Room (k + 1) X.A) (hb:Binds X.K fd ps [])
  (hx:zB CX X E) (I:Inv X pins σ H s) (r:Vals vs us) (hl0:vs.length≤1000) (h:∀ x,H x=none→sp (.ref x::vs) (upd H x (XN x C none)) (fun v H2=>v=.non∧Q (.ref x) H2) E) :
  wpAny (model X.prog X.w) X.A (call (.ref C) us) (EP X pins σ Q) X.xe s:=by
 have hq:=h (s.heap.objs.size + 1) (I.hok.fresh (Nat.le_succ _))
 have up:∀ b o,s.heap.get? b=some o→((s.heap.push { cls:=.type "tuple",data:=.seq us.toArray }).push { cls:=.ref C,data:=.fields (xfs s.heap.objs.size) }).get? b=some o:=fun b o q=>Heap.get?_push_of_some _ (Heap.get?_push_of_some _ q)
 have hget:((s.heap.push { cls:=.type "tuple",data:=.seq us.toArray }).push { cls:=.ref C,data:=.fields (xfs s.heap.objs.size) }).get? (s.heap.objs.size + 1)=some ⟨.ref C,none,.fields (xfs s.heap.objs.size),#[]⟩:=Heap.get?_push_at (by rw [Heap.size_push]) rfl
 have I2:=I.laid (a:=s.heap.objs.size + 1) (o:=XN (s.heap.objs.size + 1) C none) (t':=s.toks) up (Nat.le_succ _) (XN.ok hget)
 have r2:Vals (V.ref (s.heap.objs.size + 1)::vs) (Value.ref (s.heap.objs.size + 1)::us):=.cons rfl r
 have hl:(Value.ref (s.heap.objs.size + 1)::us++[]).length=ps.length:=by
  have q:=r2.length
  rw [F.len _ _ _ _ hq] at q
  rw [List.append_nil]
  exact q.symm
 have hus:us.length≤sizeLine:=by rw [← r.length];exact Nat.le_of_lt (qh hl0)
 refine xcall I.kIn M.at_ M.init M.fn hus (wpAny_call (codeAny_mono (F.run _ X.stack _ _ ⟨Value.ref (s.heap.objs.size + 1)::us,[]⟩ (Value.ref (s.heap.objs.size + 1)::us) _ _ E (hr.make C us [])
  (I2.env0.make C us []) (by have z:=hb _ (Value.ref (s.heap.objs.size + 1)::us) I2.kIn hl;rw [List.append_nil] at z;exact z) r2 hq) fun r s' hq'=>?_))
 cases r with
 | error e=>exact hx pins σ _ _ e s' I2 hq'
 | ok fl =>
  cases fl with
  | ret u =>
   obtain ⟨v,H',I3,rv,ev,q3⟩:=I2.after hq'
   subst ev
   exact ⟨rv,⟨V.ref (s.heap.objs.size + 1),H',I3,rfl,q3⟩⟩
  | next=>exact False.elim hq'
  | brk=>exact False.elim hq'
  | cont=>exact False.elim hq'
theorem pe_xmake (M:XMk X.K C f) (F:FnOk X.prog X.w X.K X.mg X.base CX k f fd ps sp) (hr:Room (k + 1) X.A) (hg:Gl X x) (hm:X.mg x=some (.ref C)) (hb:Binds X.K fd ps []) (hx:zB CX X E)
  (ha:PA X (e::es) t) (hdb:(x==("__debug__":Str))=false:=by decide) (he:starEach (e::es) X.env=(false,eval e X.env)::starEach es X.env:=by rfl) (hpl:(backTo pos (starEach es X.env)).any (·.1)=false:=by rfl) :
  PE X (.Call (.Name x p) (e::es) [] pos) (qdT C sp E t):=by
 intro pins s σ H Q I h
 refine wpAny_Call_Name_kw (zl I hg hm ?_ hdb)
 refine PySem.W.callWith_K (h₀:=X.base) I.ok.mod.kin M.kp (thn (ha pos pins s σ H _ I h) fun us s1 ⟨vs,H1,I1,r,z,q⟩=>⟨I1.kIn,?_⟩) he hpl
 exact run_xmake M F hr hb hx I1 r z q
structure CMeth (K:PySem.W.Frag) (C:Addr) (m:Str) (f:Addr):Prop where
 rd:PySem.W.readsIn K C (.type "type")=true
 at_:PySem.W.findCls K (.ref C) (.type "type") m=some (.val (.ref f))
 ga:PySem.W.specialIn K (.ref C) "__getattribute__"=some (some (.builtin "type.__getattribute__"))
 kp:PySem.W.keepIn K (.ref f)=true
theorem pe_clsm {pl:Sem Bool} (M:CMeth X.K C m f) (F:FnOk X.prog X.w X.K X.mg X.base CX k f fd ps sp) (hr:Room k X.A) (hg:Gl X x) (hm:X.mg x=some (.ref C)) (hb:Binds X.K fd ps []) (hx:zB CX X E) (ha:PA X (e::es) t)
  (hdb:(x==("__debug__":Str))=false:=by decide) (hst:starEach (e::es) X.env=(false,eval e X.env)::starEach es X.env:=by rfl) (hpl:(backTo pos (starEach es X.env)).any (·.1)=false:=by rfl)
  (ht:eval (.Call (.Attribute (.Name x p) m apos) (e::es) [] pos) X.env=(do
   let ov ← eval (.Name x p) X.env
   standAt apos.atName
   let (f,first) ← holding [ov] (getMethod ov m pl)
   callWith pos f first (backTo pos (starEach (e::es) X.env)) (backToKw pos (keywordEach [] X.env))):=by rfl) :
  PE X (.Call (.Attribute (.Name x p) m apos) (e::es) [] pos) (qdB sp [] E t):=by
 intro pins s σ H Q I h
 refine PySem.W.methodCall_KW (pl:=pl) (zl I hg hm ?_ hdb) ht
 refine PySem.W.method_cls I.kIn M.ga (PySem.W.cls_value I.kIn M.rd M.at_ rfl ?_)
 refine PySem.W.callWith_K (first:=[]) (h₀:=X.base) I.ok.mod.kin M.kp (thn (ha pos pins _ σ H _ (I.tok (s.toks + 1)) h) fun us s2 ⟨vs,H2,I2,r,q2⟩=>⟨I2.kIn,?_⟩) hst hpl
 exact qcP F hr hb .nil hx I2 r q2
end
end L2
namespace L2
open PySem PySem.Spec PyProof.Rows
def qeu (K:PySem.W.Frag) (t:TA):TE:=fun σ H Q=>t σ H fun vs H1=>∃ a C y,vs=[.ref a,y]∧H1 a=some (XN a C none)∧XAt K C∧Q .non H1
theorem ve_type {M:Model} {h:Heap}:PySem.W.Looks M h (typeOf (.type "ValueError")) (.type "type"):=PySem.W.Looks.of_pure (by kernel_rfl)
theorem ve_opaque {M:Model} {h:Heap}:PySem.W.Looks M h (opaqueClassAbove (.type "ValueError")) none:=PySem.W.Looks.of_pure (by kernel_rfl)
structure VInit (K:PySem.W.Frag):Prop where
 ga:PySem.W.findIn K (.type "type") "__getattribute__"=some (some (.builtin "type.__getattribute__"))
 su:PySem.W.subIn K (.type "type") (.type "type")=some true
 at_:PySem.W.findCls K (.type "ValueError") (.type "type") "__init__"=some (.val (.builtin "ValueError.__init__"))
section
variable {X:Cx} {p pos apos:Pos} {e:Expr} {es:List Expr} {t:TA} {K:PySem.W.Frag}
theorem k_vinit {pl:Sem Bool} (hK:X.K=K) (V:VInit K) (hg:Gl X "ValueError") (hm:X.mg "ValueError"=none) (hv:bootBuiltins "ValueError"=some (.type "ValueError")) (ha:PA X (e::es) t)
  (hst:starEach (e::es) X.env=(false,eval e X.env)::starEach es X.env:=by rfl) (hpl:(backTo pos (starEach es X.env)).any (·.1)=false:=by rfl)
  (ht:eval (.Call (.Attribute (.Name "ValueError" p) "__init__" apos) (e::es) [] pos) X.env=(do
   let ov ← eval (.Name "ValueError" p) X.env
   standAt apos.atName
   let (f,first) ← holding [ov] (getMethod ov "__init__" pl)
   callWith pos f first (backTo pos (starEach (e::es) X.env)) (backToKw pos (keywordEach [] X.env))):=by rfl) :
  PE X (.Call (.Attribute (.Name "ValueError" p) "__init__" apos) (e::es) [] pos) (qeu K t):=by
 subst hK
 intro pins s σ H Q I h
 refine PySem.W.methodCall_KW (pl:=pl) (qaT I hg hm hv ?_) ht
 have hgm:∀ {Q':Value×List Value→Shared→Prop},Q' (.builtin "ValueError.__init__",[]) { s with toks:=s.toks + 1 }→wpAny (model X.prog X.w) X.A (getMethod (.type "ValueError") "__init__" pl) Q' X.xe s:=fun {Q'} q=>by
  unfold getMethod
  refine wpAny_bind ((ve_type.andThen (PySem.W.looks_findIn I.kIn V.ga)).here ?_)
  dsimp only
  rw [if_pos PySem.W.canon_tga]
  refine wpAny_bind (PySem.W.cls_open (hook:=none) I.kIn ve_opaque ve_type V.ga (PySem.W.Looks.now) V.su V.at_ (wpAny_pure ?_))
  show wpAny _ _ (handedOut _) _ _ _
  exact PySem.W.handed_on rfl (wpAny_pure q)
 refine hgm ?_
 have hA:=ha pos pins _ σ H _ (I.tok (s.toks + 1)) h
 rw [hst] at hA ⊢
 refine Calls.callWith_builtin (by show (false||(backTo pos (starEach es X.env)).any (·.1))=false;rw [hpl]<;>rfl) (Calls.evalArgs_plain ?_)
 refine thn hA fun us s2 ⟨vs,H2,I2,r2,a,C,y,e1,ea,c,q⟩=>?_
 subst e1
 obtain ⟨u,v,rfl,ru,rv⟩:=qeh r2
 cases ru
 obtain ⟨⟨a0,hx⟩,_⟩:=(show ObjOk X.prog X.w H2 s2.heap a (XN a C none) from I2.hok a _ ea)
 refine xbase_init I2.kIn hx c fun h' a1 g1 g2=>?_
 have J:=I2.write (x:=a) (e:=a) (o:=XN a C none) (t':=s2.toks) (by rw [ea];exact True.intro) (.inl rfl) g2 ⟨_,g1⟩ (XN.ok g1)
 rw [upd_id ea] at J
 exact ⟨.non,H2,J,rfl,q⟩
end
end L2
namespace L2
open PySem PySem.Spec PyProof.Rows
structure Keep (fs zs:List Addr) (h h':Heap):Prop where
 keep:∀ b o,h.get? b=some o→b∉zs→b∉fs→h'.get? b=some o
 slot:∀ b o,h.get? b=some o→b∉zs→b∈fs→∃ sl,h'.get? b=some { o with slots:=sl }
structure Trc (h:Heap) (e:Addr) (C:Value) (dx:Option Addr) (T:Addr) (fl:Value):Prop where
 ex:∃ vs,h.get? e=some ⟨C,dx,.fields vs,#[]⟩∧vs[1]?=some (.ref T)∧vs[2]?=some .none
 tb:∃ ts,h.get? T=some ⟨.type "traceback",none,.fields ts,#[]⟩∧ts[3]?=some fl
 ne:T≠e
section
variable {M:Model} {A:Around} {E:Value→Shared→Prop} {s:Shared} {base:Heap} {env:Env} {outer:List Env} {L e:Addr} {C:Value} {dx:Option Addr} {vs:Array Value}
theorem qev {head:Value} {had:Bool} {Q:Unit→Shared→Prop} (hfr:A.frames=some (env::outer)) (hl:s.heap.FunFrames base (env::outer)) (hf:env.frame=some L) (he:s.heap.get? e=some ⟨C,dx,.fields vs,#[]⟩) (hsz:1 < vs.size) (h2:vs[2]?=some .none)
  (h:∀ h' T,s.heap.objs.size≤T→Trc h' e C dx T (rawInt L)→Keep (frs (env::outer)) [e] s.heap h'→Q () { s with heap:=h' }) :
  wpAny M A (do let a ← frameOf env;let pl ← entryPlaceOf L had;let b ← EntryCells.newEntry head a .none (rawInt L) .none pl;setField (.ref e) 1 b) Q E s:=by
 have hene:e∉frs (env::outer):=fun hm=>by
  obtain ⟨_,o,ho,hnf⟩:=hl.mem hm
  rw [he] at ho
  cases ho
  exact hnf vs rfl
 refine wpAny_bind (wpAny_frameOf_fun hfr hl hf fun h₁ hs=>wpAny_bind (wpAny_entryPlaceOf fun pl hpl=>?_))
 unfold EntryCells.newEntry newFields
 refine wpAny_bind (wpAny_newObj_type ?_ (hpl.sizeOk5 _ _ _ _ _))
 have he1:h₁.get? e=some ⟨C,dx,.fields vs,#[]⟩:=(hs.2.1 e hene).trans he
 generalize hts:([head,.ref L,.none,rawInt L,.none]++(if pl.isEmpty then List.replicate 6 Value.none else pl)).toArray=ts
 have h3:ts[3]?=some (rawInt L):=by rw [← hts];first | (simp;done) | (rcases hpl with rfl | ⟨_,_,_,_,_,_,_,rfl⟩<;>simp)
 have he2:=Heap.get?_push_of_some (h:=h₁) { cls:=.type "traceback",dict:=none,data:=.fields ts } he1
 have hTe:h₁.objs.size≠e:=Nat.ne_of_gt (Heap.lt_size he1)
 refine wpAny_setField he2 rfl hsz (h _ h₁.objs.size (Nat.le_of_eq hs.1.symm) ⟨⟨vs.setIfInBounds 1 (.ref h₁.objs.size),?_,by simp [hsz],by rw [Array.getElem?_setIfInBounds_ne (by decide)];exact h2⟩,⟨ts,?_,h3⟩,hTe⟩ ⟨fun b o q hb hn=>?_,fun b o q hb hn=>?_⟩)
 ·rw [Heap.get?_update_self _ he2 rfl]
  rfl
 ·rw [Heap.get?_update_other _ _ (Ne.symm hTe)]
  exact Heap.get?_push_size h₁ rfl
 ·have hbe:b≠e:=fun z=>hb (by simp [z])
  rw [Heap.get?_update_other _ _ (Ne.symm hbe)]
  exact Heap.get?_push_of_some _ ((hs.2.1 b hn).trans q)
 ·have hbe:b≠e:=fun z=>hb (by simp [z])
  obtain ⟨sl,z⟩:=hs.2.2 b o q
  exact ⟨sl,by rw [Heap.get?_update_other _ _ (Ne.symm hbe)];exact Heap.get?_push_of_some _ z⟩
theorem qbY {Q:Unit→Shared→Prop} (hfr:A.frames=some (env::outer)) (hl:s.heap.FunFrames base (env::outer)) (hf:env.frame=some L) (he:s.heap.get? e=some ⟨C,dx,.fields vs,#[]⟩) (h1:vs[1]?=some .none) (h2:vs[2]?=some .none)
  (h:∀ h' T,s.heap.objs.size≤T→Trc h' e C dx T (rawInt L)→Keep (frs (env::outer)) [e] s.heap h'→Q () { s with heap:=h' }):wpAny M A (noteFrame (.ref e) env) Q E s:=by
 unfold noteFrame
 simp only [hf]
 refine wpAny_bind (wpAny_field he rfl h1 ?_)
 rw [if_neg (by decide)]
 exact qev hfr hl hf he (Array.getElem?_eq_some_iff.mp h1).1 h2 h
theorem qc1 {T:Addr} {Q:Unit→Shared→Prop} (hfr:A.frames=some (env::outer)) (hl:s.heap.FunFrames base (env::outer)) (hf:env.frame=some L) (t:Trc s.heap e C dx T .none)
  (h:∀ h' T',s.heap.objs.size≤T'→Trc h' e C dx T' (rawInt L)→Keep (frs (env::outer)) [e,T] s.heap h'→Q () { s with heap:=h' }):wpAny M A (noteFrame (.ref e) env) Q E s:=by
 obtain ⟨⟨vs,he,h1,h2⟩,⟨ts,hT,h3⟩,hne⟩:=t
 unfold noteFrame
 simp only [hf]
 refine wpAny_bind (wpAny_field he rfl h1 ?_)
 rw [if_pos (show (Value.ref T != Value.none)=true from by simp)]
 refine wpAny_bind (wpAny_field hT rfl h3 ?_)
 rw [if_neg (show ¬ ((Value.none==rawInt L)=true) from by simp [rawInt])]
 refine wpAny_bind (wpAny_setField hT rfl (Array.getElem?_eq_some_iff.mp h3).1 ?_)
 have other:∀ b,b≠T→(s.heap.update T (Obj.mapFields (·.setIfInBounds 3 Value.none))).get? b=s.heap.get? b:=fun b hb=>Heap.get?_update_other _ _ (Ne.symm hb)
 have szu:(s.heap.update T (Obj.mapFields (·.setIfInBounds 3 Value.none))).objs.size=s.heap.objs.size:=Heap.size_after_update ..
 refine qev (s:={ s with heap:=s.heap.update T (Obj.mapFields (·.setIfInBounds 3 Value.none)) }) hfr (hl.of_keeps fun b o hb hnf=>?_) hf ((other e (Ne.symm hne)).trans he) (Array.getElem?_eq_some_iff.mp h1).1 h2 fun h' T' hs t' k=>?_
 ·have nb:b≠T:=fun q=>by rw [q,hT] at hb;cases hb;exact hnf ts rfl
  exact ⟨o,(other b nb).trans hb,rfl⟩
 ·refine h h' T' (by rw [← szu];exact hs) t' ⟨fun b o q hb hn=>?_,fun b o q hb hn=>?_⟩
  ·have nb:b≠T:=fun z=>hb (by simp [z])
   exact k.keep b o ((other b nb).trans q) (fun z=>hb (by simp only [List.mem_singleton] at z;simp [z])) hn
  ·have nb:b≠T:=fun z=>hb (by simp [z])
   exact k.slot b o ((other b nb).trans q) (fun z=>hb (by simp only [List.mem_singleton] at z;simp [z])) hn
theorem qa2 {T:Addr} {fl:Value} {Q:Unit→Shared→Prop} (t:Trc s.heap e C dx T fl) (h:∀ h',Trc h' e C dx T .none→(∀ b o,b≠T→s.heap.get? b=some o→h'.get? b=some o)→h'.objs.size=s.heap.objs.size→Q () { s with heap:=h' }) :
  wpAny M A (setFlight (.ref e) none) Q E s:=by
 obtain ⟨⟨vs,he,h1,h2⟩,⟨ts,hT,h3⟩,hne⟩:=t
 have h3':3 < ts.size:=(Array.getElem?_eq_some_iff.mp h3).1
 unfold setFlight
 refine wpAny_bind (wpAny_field he rfl h1 ?_)
 rw [if_pos (show (Value.ref T != Value.none)=true from by simp)]
 refine wpAny_setField hT rfl h3' (h _ ⟨⟨vs,?_,h1,h2⟩,⟨ts.setIfInBounds 3 .none,?_,by simp [h3']⟩,hne⟩ (fun b o hb q=>?_) (Heap.size_after_update ..))
 ·rw [Heap.get?_update_other _ _ hne]
  exact he
 ·rw [Heap.get?_update_self _ hT rfl]
  rfl
 ·rw [Heap.get?_update_other _ _ (Ne.symm hb)]
  exact q
end
end L2
namespace L2
open PySem PySem.Spec PyProof.Rows
def CX1 (P:Program) (w:World):CXT:=fun outer H s E ev s'=>∃ (a C:Addr) (dx:Option Addr) (T:Addr) (H':Hp),ev=.ref a∧s'.os=s.os∧AllBare s'.gens∧Un (frs outer) [] H H' s.heap s'.heap∧HOk P w H' s'.heap ∧
 H' a=some (XO a C dx)∧Trc s'.heap a (.ref C) dx T .none∧s.heap.objs.size≤T∧H' T=none∧E (.ref C) dx H'
section
variable {X:Cx} {pins:List (Addr×Obj)} {σ:St} {H:Hp} {s:Shared}
theorem qbs {a C T:Addr} {dx:Option Addr} {h':Heap} {fl:Value} {zs:List Addr} (I:Inv X pins σ H s) (ha:H a=some (XO a C dx)) (k:Keep (frs X.stack) zs s.heap h') (hz:∀ b∈zs,b=a∨H b=none) (t:Trc h' a (.ref C) dx T fl):HOk X.prog X.w H h':=fun b u e=>by
 by_cases hb:b=a
 ·subst hb
  rw [ha] at e
  cases e
  obtain ⟨vs,q,_⟩:=t.ex
  exact XO.ok q
 ·have nz:∀ c o,H c=some o→c≠a→c∉zs∧c∉frs X.stack:=fun c o q n=>⟨fun z=>(hz c z).elim n fun y=>(by rw [y] at q;cases q),fun z=>(by have y:=I.stkFree c z;rw [y] at q;cases q)⟩
  refine (I.hok b u e).stay (fun c v hc r=>?_) (fun _ q=>q) fun _ _ q=>q
  rcases hc with rfl | hc
  ·exact k.keep c v r (nz c _ e hb).1 (nz c _ e hb).2
  ·have n:c≠a:=fun z=>by rw [z,ha] at hc;cases hc
   exact k.keep c v r (nz c _ hc n).1 (nz c _ hc n).2
theorem qew {a C T:Addr} {dx:Option Addr} {h':Heap} {fl:Value} {zs:List Addr} (I:Inv X pins σ H s) (hex:X.ex=[]) (ha:H a=some (XO a C dx)) (k:Keep (frs X.stack) zs s.heap h') (hz:∀ b∈zs,b=a∨X.s₀.heap.objs.size≤b) (t:Trc h' a (.ref C) dx T fl) :
  Un X.fs [] X.H₀ H X.s₀.heap h':=by
 have B:=I.base
 rw [hex] at B
 have low:∀ b o,X.s₀.heap.get? b=some o→b≠X.env.locals:=fun b o e=>Nat.ne_of_lt (Nat.lt_of_lt_of_le (Heap.lt_size e) I.ok.above)
 have nz:∀ b o,X.s₀.heap.get? b=some o→b≠a→b∉zs:=fun b o e n z=>(hz b z).elim n fun y=>absurd (Nat.lt_of_lt_of_le (Heap.lt_size e) y) (Nat.lt_irrefl _)
 have na:∀ b,H b=none→b≠a:=fun b n z=>by rw [z,ha] at n;cases n
 have nfs:∀ b o,X.s₀.heap.get? b=some o→b∉X.fs→b∉frs X.stack:=fun b o e n z=>(List.mem_cons.mp (I.stkSub b z)).elim (low b o e) n
 refine ⟨fun b o e n hb hx=>?_,fun b o e n hb hx=>?_,B.free,fun b o e hx=>?_,B.tups,B.frzs,B.tbls⟩
 ·exact k.keep b o (B.keep b o e n hb hx) (nz b o e (na b (B.free b o e n hx))) (nfs b o e hb)
 ·obtain ⟨sl,q⟩:=B.slot b o e n hb hx
  have zz:=nz b o e (na b (B.free b o e n hx))
  by_cases hs:b∈frs X.stack
  ·obtain ⟨sl2,q2⟩:=k.slot b _ q zz hs
   exact ⟨sl2,q2⟩
  ·exact ⟨sl,k.keep b _ q zz hs⟩
 ·obtain ⟨o',q⟩:=B.there b o e hx
  by_cases hb:b=a
  ·subst hb
   obtain ⟨vs,z,_⟩:=t.ex
   exact ⟨_,z⟩
  ·have zz:=nz b o e hb
   by_cases hs:b∈frs X.stack
   ·obtain ⟨sl2,q2⟩:=k.slot b _ q zz hs
    exact ⟨_,q2⟩
   ·exact ⟨o',k.keep b _ q zz hs⟩
end
structure XOk (X:Cx) (EK:St→XK):Prop where
 pass:∀ (pins:List (Addr×Obj)) (σ:St) (H:Hp) (s:Shared) (e:Value) (s':Shared),Inv X pins σ H s→CX1 X.prog X.w X.stack H s (EK σ) e s'→X.xe e s'
 rais:∀ (pins:List (Addr×Obj)) (σ:St) (H:Hp) (s:Shared) (a C:Addr) (dx:Option Addr),Inv X pins σ H s→H a=some (XN a C dx)→EK σ (.ref C) dx (upd H a (XO a C dx))→X.xe (.ref a) s
 calm:X.calm=true
section
variable {P:Program} {w:World} {K:PySem.W.Frag} {mg:Str→Option Value} {base:Heap} {N:List Str} {qual:Str} {scope:Scope} {f:Addr} {cd:Value} {A:Around} {outer:List Env} {s0:Shared} {H0:Hp} {E:XK}
theorem qZ:XOk (qeo (CX1 P w) P w K mg base N qual scope f cd A outer s0 H0 E) fun _=>E where
 calm:=rfl
 pass:=by
  intro pins σ H s ev s' I hx
  obtain ⟨a,C,dx,T,H',rfl,hos,hbr,un,hok,ha,t,hT,hTn,q⟩:=hx
  have J:=I.call' (s':=s') (H':=H') (ch:=[]) hos un hok hbr (fun b z=>absurd z (by simp))
  show wpAny _ _ (leaving _ _) _ _ _
  unfold leaving
  refine wpAny_bind (qc1 (base:=base) J.ok.frames J.stack rfl t fun h' T' hs t' k=>?_)
  refine qa2 (s:={ s' with heap:=h' }) t' fun h2 t2 k2 sz2=>?_
  have hz0:s0.heap.objs.size≤s.heap.objs.size:=I.sz
  have J2:=J.sz
  have kk:Keep (frs (envOfC qual scope s0.heap.objs.size f cd::outer)) [a,T,T'] s'.heap h2:=by
   refine ⟨fun b o e z n=>?_,fun b o e z n=>?_⟩
   ·simp only [List.mem_cons,List.not_mem_nil,or_false,not_or] at z
    exact k2 b o z.2.2 (k.keep b o e (by simp [z.1,z.2.1]) n)
   ·simp only [List.mem_cons,List.not_mem_nil,or_false,not_or] at z
    obtain ⟨sl,y⟩:=k.slot b o e (by simp [z.1,z.2.1]) n
    exact ⟨sl,k2 b _ z.2.2 y⟩
  have nT':H' T'=none:=J.hok.fresh hs
  refine ⟨a,C,dx,T',H',rfl,J.os,hbr,qew J rfl ha kk (fun b hb=>?_) t2,qbs J ha kk (fun b hb=>?_) t2,ha,t2,Nat.le_trans J2 hs,nT',q⟩
  ·simp only [List.mem_cons,List.not_mem_nil,or_false] at hb
   rcases hb with rfl | rfl | rfl
   ·exact .inl rfl
   ·exact .inr (Nat.le_trans hz0 hT)
   ·exact .inr (Nat.le_trans J2 hs)
  ·simp only [List.mem_cons,List.not_mem_nil,or_false] at hb
   rcases hb with rfl | rfl | rfl
   ·exact .inl rfl
   ·exact .inr hTn
   ·exact .inr nT'
 rais:=by
  intro pins σ H s a C dx I e q
  obtain ⟨⟨a0,hx⟩,_⟩:=(show ObjOk _ _ H s.heap a (XN a C dx) from I.hok a _ e)
  have J:Inv _ pins σ (upd H a (XO a C dx)) s:=I.write (x:=a) (e:=a) (o:=XO a C dx) (h':=s.heap) (t':=s.toks) (by rw [e];exact True.intro) (.inl rfl) (fun _ _ _ q=>q) ⟨_,hx⟩ (XO.ok hx)
  show wpAny _ _ (leaving _ _) _ _ _
  unfold leaving
  refine wpAny_bind (qbY (base:=base) J.ok.frames J.stack rfl hx rfl rfl fun h' T' hs t' k=>?_)
  refine qa2 (s:={ s with heap:=h' }) t' fun h2 t2 k2 sz2=>?_
  have J2:=J.sz
  have ha:upd H a (XO a C dx) a=some (XO a C dx):=qb
  have kk:Keep (frs (envOfC qual scope s0.heap.objs.size f cd::outer)) [a,T'] s.heap h2:=by
   refine ⟨fun b o e z n=>?_,fun b o e z n=>?_⟩
   ·simp only [List.mem_cons,List.not_mem_nil,or_false,not_or] at z
    exact k2 b o z.2 (k.keep b o e (by simp [z.1]) n)
   ·simp only [List.mem_cons,List.not_mem_nil,or_false,not_or] at z
    obtain ⟨sl,y⟩:=k.slot b o e (by simp [z.1]) n
    exact ⟨sl,k2 b _ z.2 y⟩
  have nT':upd H a (XO a C dx) T'=none:=J.hok.fresh hs
  refine ⟨a,C,dx,T',_,rfl,J.os,J.bare,qew J rfl ha kk (fun b hb=>?_) t2,qbs J ha kk (fun b hb=>?_) t2,ha,t2,Nat.le_trans J2 hs,nT',q⟩
  ·simp only [List.mem_cons,List.not_mem_nil,or_false] at hb
   rcases hb with rfl | rfl
   ·exact .inl rfl
   ·exact .inr (Nat.le_trans J2 hs)
  ·simp only [List.mem_cons,List.not_mem_nil,or_false] at hb
   rcases hb with rfl | rfl
   ·exact .inl rfl
   ·exact .inr nT'
end
def qex (K:PySem.W.Frag) (EK:St→XK) (te:TE):TS:=fun _ σ H=>te σ H fun x H1=>∃ a C dx,x=.ref a∧H1 a=some (XN a C dx)∧XAt K C∧EK σ (.ref C) dx (upd H1 a (XO a C dx))
section
variable {X:Cx} {EK:St→XK} {e:Expr} {te:TE} {pos:Pos} {K:PySem.W.Frag}
theorem xraise {M:Model} {A:Around} {E:Value→Shared→Prop} {env:Env} {s:Shared} {x:Sem Value} {Q:Flow→Shared→Prop} (hh:A.handled=none)
  (h:wpAny M A x (fun v s1=>∃ a C dx a0,v=.ref a∧K.In s1.heap∧XAt K C∧s1.heap.get? a=some ⟨.ref C,dx,.fields (xfs a0),#[]⟩∧E (.ref a) s1) E s):wpAny M A (raiseStmt env (some x) none) Q E s:=by
 unfold raiseStmt
 refine wpAny_bind (wpAny_mono h (fun v s1 h1=>?_) fun _ _ z=>z)
 obtain ⟨a,C,dx,a0,rfl,kin,c,he,hE⟩:=h1
 obtain ⟨nm,qn,N,bs,bm,hdct,sn,sub,ab,col,dd,k0,k1,k2,k3,k5,hC,hm⟩:=qcY kin c.xc
 have hcB:(Value.ref C::bm).contains (.type "BaseException")=true:=by rw [List.contains_cons,qai hm (by simp),Bool.or_true]
 obtain ⟨hp,g,d,tk,os⟩:=s1
 repeat (first | with_reducible refine wpAny_loadPart_at he ?_ | with_reducible refine wpAny_loadPart_at hC ?_ | (with_reducible refine wpAny_isSubtype_exc hC ?_;rw [hcB]) | wp_step)
 exact wpAny_raiseNew_none hh hE
theorem j4 (hK:X.K=K) (XX:XOk X EK) (he:PE X e te):PS X (.Raise (some e) none pos) (qex K EK te):=by
 subst hK
 intro pins s σ H D I h
 rw [arm_exec_Raise]
 refine wpAny_bind (wpAny_standAt (xraise (K:=X.K) (I.ok.hd XX.calm) ?_))
 refine wpAny_bind (thn (he pins s σ H _ I h) fun v s1 ⟨x,H1,I1,rx,a,C,dx,ex,ea,c,q⟩=>wpAny_bind (wpAny_standAt (wpAny_pure ?_)))
 subst ex
 cases rx
 obtain ⟨⟨a0,hx⟩,_⟩:=(show ObjOk _ _ H1 s1.heap a (XN a C dx) from I1.hok a _ ea)
 exact ⟨a,C,dx,a0,rfl,I1.kIn,c,hx,XX.rais pins σ H1 s1 a C dx I1 ea q⟩
end
end L2
namespace L2
open PySem PySem.Spec PyProof.Rows
def qey (sp:Sp) (EK:St→XK) (t:TA):TE:=fun σ H Q=>t σ H fun vs H1=>sp vs H1 Q (EK σ)
def qez (C:Addr) (m:Str) (sp:Sp) (EK:St→XK) (ta:TE) (t:TA):TE:=fun σ H Q=>ta σ H fun x H1=>∃ a dx fs,x=.ref a∧H1 a=some (.ins C dx fs)∧fs.lookup m=none∧t σ H1 fun vs H2=>sp (x::vs) H2 Q (EK σ)
def qeA (C:Addr) (sp:Sp) (EK:St→XK) (t:TA):TE:=fun σ H Q=>t σ H fun vs H1=>∀ x dx,H1 x=none→H1 dx=none→dx≠x →
 sp (.ref x::vs) (upd (upd H1 dx (.own x)) x (.ins C dx [])) (fun v H2=>v=.non∧Q (.ref x) H2) (EK σ)
theorem FnOk.quiet {P:Program} {w:World} {K:PySem.W.Frag} {mg:Str→Option Value} {base:Heap} {k:Nat} {f:Addr} {fd:FuncData} {ps:List Str} {sp:Sp} (F:FnOk P w K mg base (CX1 P w) k f fd ps sp) :
  FnOk P w K mg base CX0 k f fd ps (fun vs H Q _=>sp vs H Q E0):=by
 refine ⟨fun vs H Q E h=>F.len vs H Q E0 h,fun A outer s H args us vs Q E hr he hb hv hs=>codeAny_mono (F.run A outer s H args us vs Q E0 hr he hb hv hs) fun r s' q=>?_⟩
 cases r with
 | ok fl=>cases fl<;>exact q
 | error e =>
  obtain ⟨_,_,_,_,_,_,_,_,_,_,_,_,_,_,z⟩:=q
  exact z.elim
structure MethOk (P:Program) (w:World) (K:PySem.W.Frag) (mg:Str→Option Value) (base:Heap) (CX:CXT) (k:Nat) (C:Addr) (m:Str) (ps:List Str) (sp:Sp):Prop where
 ex:∃ f fd,FnOk P w K mg base CX k f fd ps sp∧Meth K C m f∧Binds K fd ps []
 cl:Cls K C
structure MakeOk (P:Program) (w:World) (K:PySem.W.Frag) (mg:Str→Option Value) (base:Heap) (CX:CXT) (k:Nat) (C:Addr) (x:Str) (ps:List Str) (sp:Sp):Prop where
 ex:∃ f fd,FnOk P w K mg base CX k f fd ps sp∧Mk K C f∧Binds K fd ps []
 mg_:mg x=some (.ref C)
structure XMakeOk (P:Program) (w:World) (K:PySem.W.Frag) (mg:Str→Option Value) (base:Heap) (k:Nat) (C:Addr) (x:Str) (ps:List Str) (sp:Sp):Prop where
 ex:∃ f fd,FnOk P w K mg base CX0 k f fd ps sp∧XMk K C f∧Binds K fd ps []
 mg_:mg x=some (.ref C)
section
variable {X:Cx} {EK:St→XK} {k:Nat} {f C:Addr} {fd:FuncData} {ps:List Str} {sp:Sp} {x m:Str} {p pos apos:Pos} {e o:Expr} {es:List Expr} {ta:TE} {t:TA}
theorem qdU {pins:List (Addr×Obj)} {σ:St} {H:Hp} {s:Shared} {Q:VK} {us:List Value} {vs:List V} (F:FnOk X.prog X.w X.K X.mg X.base (CX1 X.prog X.w) k f fd ps sp) (hr:Room k X.A) (hb:Binds X.K fd ps []) (XX:XOk X EK)
  (I:Inv X pins σ H s) (r:Vals vs us) (h:sp vs H Q (EK σ)):wpAny (model X.prog X.w) X.A (call (.ref f) us) (EP X pins σ Q) X.xe s:=by
 have hl:(us++[]).length=ps.length:=by rw [List.append_nil,← r.length];exact F.len _ _ _ _ h
 have b:=hb s us I.kIn hl
 rw [List.append_nil] at b
 refine wpAny_call (codeAny_mono (F.run X.A X.stack s H ⟨us,[]⟩ us vs Q (EK σ) hr I.env0 b r h) fun r s' hq=>?_)
 cases r with
 | error e=>exact XX.pass pins σ H s e s' I hq
 | ok fl =>
  cases fl with
  | ret u=>exact I.after hq
  | _=>exact False.elim hq
theorem zD (D:DefOk X.prog X.w X.K X.mg X.base (CX1 X.prog X.w) k x ps sp) (hr:Room k X.A) (XX:XOk X EK) (ha:PA X (e::es) t) (hg:Gl X x:=by rfl) (hdb:(x==("__debug__":Str))=false:=by decide)
  (he:starEach (e::es) X.env=(false,eval e X.env)::starEach es X.env:=by rfl) (hpl:(backTo pos (starEach es X.env)).any (·.1)=false:=by rfl):PE X (.Call (.Name x p) (e::es) [] pos) (qey sp EK t):=by
 obtain ⟨f,fd,F,hm,hk,hb⟩:=D.ex
 intro pins s σ H Q I h
 refine wpAny_Call_Name_kw (zl I hg hm ?_ hdb)
 refine PySem.W.callWith_K (h₀:=X.base) I.ok.mod.kin hk (thn (ha pos pins s σ H _ I h) fun us s1 ⟨vs,H1,I1,r,q⟩=>⟨I1.kIn,?_⟩) he hpl
 exact qdU F hr hb XX I1 r q
theorem qaM {pl:Sem Bool} (D:MethOk X.prog X.w X.K X.mg X.base (CX1 X.prog X.w) k C m ps sp) (hr:Room k X.A) (XX:XOk X EK) (he:PE X o ta) (ha:PA X (e::es) t)
  (hst:starEach (e::es) X.env=(false,eval e X.env)::starEach es X.env:=by rfl) (hpl:(backTo pos (starEach es X.env)).any (·.1)=false:=by rfl)
  (ht:eval (.Call (.Attribute o m apos) (e::es) [] pos) X.env=(do
   let ov ← eval o X.env
   standAt apos.atName
   let (f,first) ← holding [ov] (getMethod ov m pl)
   callWith pos f first (backTo pos (starEach (e::es) X.env)) (backToKw pos (keywordEach [] X.env))):=by rfl) :
  PE X (.Call (.Attribute o m apos) (e::es) [] pos) (qez C m sp EK ta t):=by
 obtain ⟨f,fd,F,hm,hb⟩:=D.ex
 intro pins s σ H Q I h
 refine PySem.W.methodCall_KW (pl:=pl) (thn (he pins s σ H _ I h) fun u s1 ⟨x,H1,I1,rx,a,dx,fs,ex,ea,l,q⟩=>?_) ht
 subst ex
 obtain rfl:u=Value.ref a:=rx
 refine qat I1 ea D.cl hm l ?_
 refine PySem.W.callWith_K (first:=[.ref a]) (h₀:=X.base) I.ok.mod.kin hm.kp (thn (ha pos pins s1 σ H1 _ I1 q) fun us s2 ⟨vs,H2,I2,r,q2⟩=>⟨I2.kIn,?_⟩) hst hpl
 exact qdU (us:=.ref a::us) (vs:=.ref a::vs) F hr hb XX I2 (.cons rfl r) q2
theorem run_makeS {pins:List (Addr×Obj)} {σ:St} {H:Hp} {s:Shared} {Q:VK} {us:List Value} {vs:List V} (M:Mk X.K C f) (F:FnOk X.prog X.w X.K X.mg X.base (CX1 X.prog X.w) k f fd ps sp) (hr:Room (k + 1) X.A) (hb:Binds X.K fd ps []) (XX:XOk X EK)
  (I:Inv X pins σ H s) (r:Vals vs us) (h:∀ x dx,H x=none→H dx=none→dx≠x→sp (.ref x::vs) (upd (upd H dx (.own x)) x (.ins C dx [])) (fun v H2=>v=.non∧Q (.ref x) H2) (EK σ)) :
  wpAny (model X.prog X.w) X.A (call (.ref C) us) (EP X pins σ Q) X.xe s:=by
 have hq:=h (s.heap.objs.size + 1) s.heap.objs.size (I.hok.fresh (Nat.le_succ _)) (I.hok.fresh (Nat.le_refl _)) (Nat.ne_of_lt (Nat.lt_succ_self _))
 have I2:=Inv.made (C:=C) I
 have r2:Vals (V.ref (s.heap.objs.size + 1)::vs) (Value.ref (s.heap.objs.size + 1)::us):=.cons rfl r
 have hl:(Value.ref (s.heap.objs.size + 1)::us++[]).length=ps.length:=by
  have q:=r2.length
  rw [F.len _ _ _ _ hq] at q
  rw [List.append_nil]
  exact q.symm
 have b:=hb _ (Value.ref (s.heap.objs.size + 1)::us) I2.kIn hl
 rw [List.append_nil] at b
 refine wpAny_call (qcO (f:=f) I.kIn M.makes M.init (beq_iff_eq.mp M.fn) (codeAny_mono (F.run _ X.stack _ _ ⟨Value.ref (s.heap.objs.size + 1)::us,[]⟩ (Value.ref (s.heap.objs.size + 1)::us) _ _ (EK σ) (hr.make C us [])
  (I2.env0.make C us []) b r2 hq) fun r s' hq'=>?_))
 cases r with
 | error e=>exact XX.pass pins σ _ _ e s' I2 hq'
 | ok fl =>
  cases fl with
  | ret u =>
   obtain ⟨v,H',I3,rv,ev,q3⟩:=I2.after hq'
   subst ev
   exact ⟨rv,⟨V.ref (s.heap.objs.size + 1),H',I3,rfl,q3⟩⟩
  | _=>exact False.elim hq'
theorem pe_makeS (D:MakeOk X.prog X.w X.K X.mg X.base (CX1 X.prog X.w) k C x ps sp) (hr:Room (k + 1) X.A) (XX:XOk X EK) (ha:PA X (e::es) t) (hg:Gl X x:=by rfl) (hdb:(x==("__debug__":Str))=false:=by decide)
  (he:starEach (e::es) X.env=(false,eval e X.env)::starEach es X.env:=by rfl) (hpl:(backTo pos (starEach es X.env)).any (·.1)=false:=by rfl):PE X (.Call (.Name x p) (e::es) [] pos) (qeA C sp EK t):=by
 obtain ⟨f,fd,F,M,hb⟩:=D.ex
 intro pins s σ H Q I h
 refine wpAny_Call_Name_kw (zl I hg D.mg_ ?_ hdb)
 refine PySem.W.callWith_K (h₀:=X.base) I.ok.mod.kin M.kp (thn (ha pos pins s σ H _ I h) fun us s1 ⟨vs,H1,I1,r,q⟩=>⟨I1.kIn,?_⟩) he hpl
 exact run_makeS M F hr hb XX I1 r q
theorem qa3 (D:XMakeOk X.prog X.w X.K X.mg X.base k C x ps sp) (hr:Room (k + 1) X.A) (ha:PA X (e::es) t) (hg:Gl X x:=by rfl) (hdb:(x==("__debug__":Str))=false:=by decide)
  (he:starEach (e::es) X.env=(false,eval e X.env)::starEach es X.env:=by rfl) (hpl:(backTo pos (starEach es X.env)).any (·.1)=false:=by rfl):PE X (.Call (.Name x p) (e::es) [] pos) (qdT C sp E0 t):=by
 obtain ⟨f,fd,F,M,hb⟩:=D.ex
 exact pe_xmake M F hr hg D.mg_ hb qC ha hdb he hpl
theorem zM {pl:Sem Bool} (D:MethOk X.prog X.w X.K X.mg X.base CX0 k C m ps sp) (hr:Room k X.A) (he:PE X o ta) (ha:PA X (e::es) t)
  (hst:starEach (e::es) X.env=(false,eval e X.env)::starEach es X.env:=by rfl) (hpl:(backTo pos (starEach es X.env)).any (·.1)=false:=by rfl)
  (ht:eval (.Call (.Attribute o m apos) (e::es) [] pos) X.env=(do
   let ov ← eval o X.env
   standAt apos.atName
   let (f,first) ← holding [ov] (getMethod ov m pl)
   callWith pos f first (backTo pos (starEach (e::es) X.env)) (backToKw pos (keywordEach [] X.env))):=by rfl) :
  PE X (.Call (.Attribute o m apos) (e::es) [] pos) (qdC C m sp [] E0 ta t):=by
 obtain ⟨f,fd,F,hm,hb⟩:=D.ex
 exact pe_meth (pl:=pl) he D.cl hm F hr hb .nil qC ha hst hpl ht
theorem qa4 {pl:Sem Bool} (D:MethOk X.prog X.w X.K X.mg X.base CX0 k C m ps sp) (hr:Room k X.A) (he:PE X o ta)
  (ht:eval (.Call (.Attribute o m apos) [] [] pos) X.env=(do
   let ov ← eval o X.env
   standAt apos.atName
   let (f,first) ← holding [ov] (getMethod ov m pl)
   callWith pos f first (backTo pos (starEach [] X.env)) (backToKw pos (keywordEach [] X.env))):=by rfl) :
  PE X (.Call (.Attribute o m apos) [] [] pos) (qdC C m sp [] E0 ta qfO):=by
 obtain ⟨f,fd,F,hm,hb⟩:=D.ex
 exact pe_meth0 (pl:=pl) he D.cl hm F hr hb .nil qC ht
end
section
variable {P:Program} {w:World} {K:PySem.W.Frag} {mg:Str→Option Value} {base:Heap}
theorem Fun.ok1 {x qual:Str} {st:Stmt} {f:Addr} {fd:FuncData} {N ps:List Str} {k:Nat} {sp:Sp} (F:Fun K x qual st f fd) (S:FnScope N ps (qe st)) (len:∀ vs H Q E,sp vs H Q E→vs.length=ps.length)
  (hbody:∀ (cdv:Value) (A:Around) (outer:List Env) (s:Shared) (H:Hp) (vs:List V) (Q:VK) (E:XK),Room k (A.deeper (envOfC qual (qe st) s.heap.objs.size f cdv))→sp vs H Q E →
   ∃ t,PSs (qeo (CX1 P w) P w K mg base N qual (qe st) f cdv A outer s H E) (qj st) t∧t { nx:=fun _ H'=>Q .non H',rt:=Q } (start N vs) H):FnOk P w K mg base (CX1 P w) (k + 1) f fd ps sp:=by
 obtain ⟨oc,od,kV,doc,pm,an,cdv,ct,osl,rfl,lk,hcd⟩:=F.ex
 exact qfk lk hcd S len fun A outer s H vs Q E hr hsp=>hbody cdv A outer s H vs Q E hr hsp
end
end L2
namespace L2
open PySem PySem.Spec PyProof.Rows
abbrev Cx.tried (X:Cx) (pn:List (Addr×Obj)) (E:Value→Shared→Prop):Cx:={ X with pn:=pn,xe:=E }
abbrev Cx.hand (X:Cx) (a:Addr):Cx:={ X with A:=X.A.mark (some (.ref a)),calm:=false,xe:=fun _ _=>False }
section
variable {X:Cx} {pins pins':List (Addr×Obj)} {σ:St} {H:Hp} {s:Shared} {E:Value→Shared→Prop} {a:Addr}
theorem Inv.tried (I:Inv X pins σ H s) (E:Value→Shared→Prop):Inv (X.tried (X.pn++pins) E) [] σ H s:=
 ⟨⟨I.ok.mod,I.ok.kind,I.ok.glob,I.ok.blt,I.ok.above,I.ok.inj,I.ok.has,I.ok.cab,I.ok.hd,I.ok.frames,I.ok.stk,I.ok.exf,I.ok.bs,I.ok.bsz,I.ok.noex,I.ok.exfs,I.ok.funs,I.ok.frf⟩,I.os,I.bare,I.base,I.loc,I.cell,I.free,I.freeC,
  fun p hp=>I.pin p (by have hp:p∈(X.pn++pins)++[]:=hp;rw [List.append_nil] at hp;exact hp),I.hok,I.len⟩
theorem Inv.untried (I:Inv (X.tried (X.pn++pins) E) pins' σ H s):Inv X pins σ H s:=
 ⟨⟨I.ok.mod,I.ok.kind,I.ok.glob,I.ok.blt,I.ok.above,I.ok.inj,I.ok.has,I.ok.cab,I.ok.hd,I.ok.frames,I.ok.stk,I.ok.exf,I.ok.bs,I.ok.bsz,I.ok.noex,I.ok.exfs,I.ok.funs,I.ok.frf⟩,I.os,I.bare,I.base,I.loc,I.cell,I.free,I.freeC,
  fun p hp=>I.pin p (List.mem_append_left _ hp),I.hok,I.len⟩
theorem Inv.hand (I:Inv X pins σ H s) (a:Addr):Inv (X.hand a) pins σ H s:=
 ⟨⟨I.ok.mod,I.ok.kind,I.ok.glob,I.ok.blt,I.ok.above,I.ok.inj,I.ok.has,I.ok.cab,(fun h=>nomatch h),I.ok.frames,I.ok.stk,I.ok.exf,I.ok.bs,I.ok.bsz,I.ok.noex,I.ok.exfs,I.ok.funs,I.ok.frf⟩,I.os,I.bare,I.base,I.loc,I.cell,I.free,I.freeC,I.pin,I.hok,I.len⟩
theorem Inv.unhand (hc:X.calm=true→X.A.handled=none) (I:Inv (X.hand a) pins σ H s):Inv X pins σ H s:=
 ⟨⟨I.ok.mod,I.ok.kind,I.ok.glob,I.ok.blt,I.ok.above,I.ok.inj,I.ok.has,I.ok.cab,hc,I.ok.frames,I.ok.stk,I.ok.exf,I.ok.bs,I.ok.bsz,I.ok.noex,I.ok.exfs,I.ok.funs,I.ok.frf⟩,I.os,I.bare,I.base,I.loc,I.cell,I.free,I.freeC,I.pin,I.hok,I.len⟩
structure Loose (X:Cx) (pins:List (Addr×Obj)) (H:Hp) (T:Addr):Prop where
 hn:H T=none
 lo:X.s₀.heap.objs.size≤T
 nl:T≠X.env.locals
 nf:T∉X.fs
 nc:∀ x c,X.env.cells.lookup x=some c→c≠T
 np:∀ p∈X.pn++pins,p.1≠T
theorem Inv.loose (I:Inv X pins σ H s) {T:Addr} (hT:s.heap.objs.size≤T) {H':Hp} (hn:H' T=none):Loose X pins H' T where
 hn:=hn
 lo:=Nat.le_trans I.sz hT
 nl:=Nat.ne_of_gt (Nat.lt_of_lt_of_le I.lt hT)
 nf:=I.nofs hT
 nc:=fun x c e=>by
  obtain ⟨v,o,ho,_⟩:=I.cell x c e
  exact Nat.ne_of_lt (Nat.lt_of_lt_of_le (Heap.lt_size ho) hT)
 np:=fun p hp=>Nat.ne_of_lt (Nat.lt_of_lt_of_le (Heap.lt_size (I.pin p hp).1) hT)
theorem Inv.noted {C T:Addr} {dx:Option Addr} {fl:Value} {zs:List Addr} {h':Heap} (I:Inv X pins σ H s) (ha:H a=some (XO a C dx)) (k:Keep (frs X.stack) zs s.heap h') (hz:∀ b∈zs,b=a∨Loose X pins H b) (t:Trc h' a (.ref C) dx T fl) :
  Inv X pins σ H { s with heap:=h' }:=by
 have hh:=qbs I ha k (fun b hb=>(hz b hb).imp (fun e=>e) fun l=>l.hn) t
 have nz:∀ b,H b=none→b∉zs.filter (fun b=>decide (b≠a))→b∉zs:=fun b n z y=>z (List.mem_filter.mpr ⟨y,decide_eq_true fun e=>by rw [e,ha] at n;cases n⟩)
 refine I.call (g':=s.gens) (t':=s.toks) (d':=s.drawn) (ch:=zs.filter fun b=>decide (b≠a)) ⟨fun b o e n hb hx=>k.keep b o e (nz b n hx) hb,fun b o e n hb hx=>k.slot b o e (nz b n hx) hb,fun _ _ _ n _=>n,fun b o e hx=>?_,fun _ _ e=>e,fun _ _ _ e=>e,
  fun b ps e=>⟨#[],by rw [e];simp⟩⟩ hh I.bare fun b hb=>?_
 ·by_cases hba:b=a
  ·subst hba
   obtain ⟨vs,q,_⟩:=t.ex
   exact ⟨_,q⟩
  ·have z:b∉zs:=fun y=>hx (List.mem_filter.mpr ⟨y,decide_eq_true hba⟩)
   by_cases hs:b∈frs X.stack
   ·obtain ⟨sl,q⟩:=k.slot b o e z hs
    exact ⟨_,q⟩
   ·exact ⟨o,k.keep b o e z hs⟩
 ·obtain ⟨y,q⟩:=List.mem_filter.mp hb
  rcases hz b y with e | l
  ·exact absurd e (of_decide_eq_true q)
  ·exact ⟨.inr l.lo,l.nl,l.nc,l.np⟩
theorem unbind_ok {M:Model} {A:Around} {i:Nat} {x:Str} {v:V} {Q:Unit→Shared→Prop} (I:Inv X pins σ H s) (hN:X.N.Nodup) (hi:X.N[i]?=some x) (hx:X.env.scope.names.lookup x=some .local) (hv:σ[i]?=some (some v))
  (h:∀ s',Inv X pins (σ.set i none) H s'→Q () s'):wpAny M A (unbindName X.env x) Q E s:=by
 obtain ⟨m,hn,hl⟩:=id I.loc
 obtain ⟨u,ru,lk⟩:=hl i x v hi hv (.inl hx)
 have hm:m x=some u:=by
  rcases lk with ⟨_,e⟩ | ⟨k,_⟩
  ·exact e
  ·have k':X.env.scope.names.lookup x=some .cell∨X.env.scope.names.lookup x=some .free:=k
   rw [hx] at k'
   rcases k' with z | z<;>cases z
 have hcls:(X.env.scope.kind==.class||(X.env.scope.kind==.module&&X.env.locals != X.env.globals))=false:=by rw [I.ok.kind];rfl
 refine wpAny_unbindName_local hx hn hm hcls fun h' u' hn' hs=>?_
 have lowL:∀ b o,X.s₀.heap.get? b=some o→b≠X.env.locals:=fun b o e=>Nat.ne_of_lt (Nat.lt_of_lt_of_le (Heap.lt_size e) I.ok.above)
 refine h _ ⟨I.ok,I.os,I.bare,⟨fun b o e n hb hx=>?_,fun b o e n hb hx=>?_,I.base.free,fun b o e hx=>?_,I.base.tups,I.base.frzs,I.base.tbls⟩,⟨_,hn',fun j y v' e1 e2 e3=>?_⟩,fun y c e=>?_,I.free,I.freeC,fun p hp=>?_,fun b ob e=>?_,by simpa using I.len⟩
 ·exact (hs.2 b (lowL b o e)).trans (I.base.keep b o e n hb hx)
 ·obtain ⟨sl,e1⟩:=I.base.slot b o e n hb hx
  exact ⟨sl,(hs.2 b (lowL b o e)).trans e1⟩
 ·obtain ⟨o',e1⟩:=I.base.there b o e hx
  exact ⟨o',(hs.2 b (lowL b o e)).trans e1⟩
 ·by_cases hj:j=i
  ·subst hj
   have hlt:j < σ.length:=by rw [I.len];exact (List.getElem?_eq_some_iff.mp hi).1
   rw [List.getElem?_set_self hlt] at e2
   cases e2
  ·rw [List.getElem?_set_ne (Ne.symm hj)] at e2
   obtain ⟨w',r',q⟩:=hl j y v' e1 e2 e3
   refine ⟨w',r',?_⟩
   rcases q with ⟨k,e⟩ | ⟨k,c,e,z⟩
   ·have ny:y≠x:=fun e=>hj (qbq hN e1 (e ▸ hi))
    exact .inl ⟨k,by simp [ny,e]⟩
   ·exact .inr ⟨k,c,e,z.sameBut hs (I.cne y c e)⟩
 ·obtain ⟨w',z⟩:=I.cell y c e
  exact ⟨w',z.sameBut hs (I.cne y c e)⟩
 ·obtain ⟨e,n,ne,nf,d⟩:=I.pin p hp
  exact ⟨(hs.2 p.1 ne).trans e,n,ne,nf,d⟩
 ·refine (I.hok b ob e).stay (fun c w' hc q=>(hs.2 c ?_).trans q) (fun _ q=>q) fun _ _ q=>q
  rintro rfl
  rcases hc with rfl | hc
  ·rw [I.free] at e;cases e
  ·rw [I.free] at hc;cases hc
end
end L2
namespace L2
open PySem PySem.Spec PyProof.Rows
structure Held (X:Cx) (pins:List (Addr×Obj)) (H:Hp) (h:Heap) (a C:Addr) (dx:Option Addr):Prop where
 at_:H a=some (XO a C dx)
 tr:∃ T,Trc h a (.ref C) dx T .none∧Loose X pins H T
def PH (X:Cx) (a C:Addr) (dx:Option Addr) (hs:List ExceptHandler) (th:TS):Prop:=
 ∀ (pins:List (Addr×Obj)) (s:Shared) (σ:St) (H:Hp) (D:Ends),Inv X pins σ H s→Held X pins H s.heap a C dx→th D σ H→wpAny (model X.prog X.w) X.A (handleBy (.ref a) X.env hs) (SP X pins D) X.xe s
def thNil:TS:=fun _ _ _=>False
def thAs (K:PySem.W.Frag) (a C D:Addr) (i:Nat) (tb rest:TS):TS:=fun Z σ H=>∃ b,PySem.W.mroIn K C (.ref D)=some b∧XAt K D∧XAt K C ∧
 if b=true then tb { nx:=fun σ' H'=>Z.nx (σ'.set i none) H',rt:=Z.rt,bk:=fun σ' H'=>Z.bk (σ'.set i none) H',ct:=fun σ' H'=>Z.ct (σ'.set i none) H' } (σ.set i (some (.ref a))) H else rest Z σ H
def thNo (K:PySem.W.Frag) (C D:Addr) (tb rest:TS):TS:=fun Z σ H=>∃ b,PySem.W.mroIn K C (.ref D)=some b∧XAt K D∧XAt K C∧if b=true then tb Z σ H else rest Z σ H
theorem qeB {M:Model} {A:Around} {E:Value→Shared→Prop} {s:Shared} {K:PySem.W.Frag} {a C D:Addr} {o:Obj} {b:Bool} {Q:Bool→Shared→Prop} (X:K.In s.heap) (ho:s.heap.get? a=some o) (hc:o.cls=.ref C) (d:XAt K D) (hb:PySem.W.mroIn K C (.ref D)=some b) (q:Q b s) :
  wpAny M A (excMatches (.ref a) (.ref D)) Q E s:=by
 obtain ⟨nm,qn,N,bs,bm,hdct,sn,sub,ab,col,dd,k0,k1,k2,k3,k5,hD,hm⟩:=qcY X d.xc
 have hcB:(Value.ref D::bm).contains (.type "BaseException")=true:=by rw [List.contains_cons,qai hm (by simp),Bool.or_true]
 have f:=tc_notTuple
 have L:=PySem.W.looks_mroIn (M:=M) X hb
 obtain ⟨hp,g,dr,tk,os⟩:=s
 unfold excMatches
 repeat (first | with_reducible refine wpAny_loadPart_at hD ?_ | (with_reducible refine wpAny_loadPart_at ho ?_;rw [hc]) | (with_reducible refine wpAny_isSubtype_exc hD ?_;rw [hcB]) | with_reducible refine L.at ?_ | wp_step)
 cases b<;>(wp_walk;exact q)
section
variable {X:Cx} {a C D:Addr} {dx:Option Addr} {c n:Str} {cp pos:Pos} {b0:Stmt} {body:List Stmt} {rest:List ExceptHandler} {tb tr:TS} {i:Nat} {K:PySem.W.Frag}
theorem ph_nil:PH X a C dx [] thNil:=fun _ _ _ _ _ _ _ h=>h.elim
theorem suite_as {prog:Program} {w:World} {A:Around} {R:Result→Shared→Prop} {s:Shared} {env:Env} {e:Value}
  (h:wpAny (model prog w) A (setFlight e none) (fun _ s1=>wpAny (model prog w) A (bindName env n e) (fun _ s2=>wpAny (model prog w) A (execs (b0::body) env) (fun f s3=>R (.ok f) s3) (fun _ _=>False) s2) (fun _ _=>False) s1) (fun _ _=>False) s) :
  codeAny (model prog w) A (.handlers e [.ExceptHandler none (some n) (b0::body) pos] env) R s:=by
 refine codeAny_of_tree ?_
 show wpAny _ A (do return Fin.done (← (handleWith e env [.ExceptHandler none (some n) (b0::body) pos]).onRaise (fun x=>do noteFrame x env;theTreesLotGoes x))) _ _ s
 refine wpAny_bind (wpAny_noted ?_)
 unfold handleWith
 refine wpAny_bind (wpAny_standAt (wpAny_bind (wpAny_mono h (fun _ s1 h1=>wpAny_bind (wpAny_mono h1 (fun _ s2 h2=>wpAny_bind (wpAny_attempt (wpAny_mono h2 (fun f s3 h3=>wpAny_pure (wpAny_pure h3)) fun _ _ z=>z.elim))) fun _ _ z=>z.elim)) fun _ _ z=>z.elim)))
theorem ph_as (hK:X.K=K) (hN:X.N.Nodup) (hi:X.N[i]?=some n) (hx:X.env.scope.names.lookup n=some .local) (hg:Gl X c) (hm:X.mg c=some (.ref D)) (hb:PSs (X.hand a) (b0::body) tb) (hr:PH X a C dx rest tr)
  (hdb:(c==("__debug__":Str))=false:=by decide):PH X a C dx (.ExceptHandler (some (.Name c cp)) (some n) (b0::body) pos::rest) (thAs K a C D i tb tr):=by
 subst hK
 intro pins s σ H Z I hl h
 obtain ⟨b,hb1,xd,xc,q⟩:=h
 obtain ⟨vs,he⟩:=(show IsX H a C dx from .inr hl.at_).get I.hok
 refine wpAny_handleBy_cons (codeAny_handlers_test ?_) (by intro q;cases q)
 have Ih:=I.hand a
 refine zl (X:=X.hand a) Ih hg hm (qeB I.kIn he rfl xd hb1 ?_) hdb
 cases b with
 | false=>exact hr pins s σ H Z I hl q
 | true =>
  obtain ⟨T,t,lo⟩:=hl.tr
  refine suite_as (qa2 t fun h1 t1 k1 sz1=>?_)
  have kk:Keep (frs X.stack) [T] s.heap h1:=⟨fun b o e z _=>k1 b o (by simpa using z) e,fun b o e z _=>⟨o.slots,k1 b o (by simpa using z) e⟩⟩
  have I1:=I.noted hl.at_ kk (fun b hb=>.inr (by rw [List.mem_singleton.mp hb];exact lo)) t1
  have I2:=I1.hand a
  refine wpAny_bindName (qaK (X:=X.hand a) I2 hN hi (.inl hx) (v:=.ref a) rfl (fun s2 I3=>?_) (.inr hx))
  have q':tb { nx:=fun σ' H'=>Z.nx (σ'.set i none) H',rt:=Z.rt,bk:=fun σ' H'=>Z.bk (σ'.set i none) H',ct:=fun σ' H'=>Z.ct (σ'.set i none) H' } (σ.set i (some (.ref a))) H:=q
  refine thn (hb pins s2 _ H _ I3 q') fun f s3 hf=>?_
  have fin:∀ {σ':St} {H':Hp} {Q:Unit→Shared→Prop},Inv (X.hand a) pins σ' H' s3→(∀ s4,Inv X pins (σ'.set i none) H' s4→Q () s4)→wpAny (model X.prog X.w) X.A (do bindName X.env n .none;unbindBehindTheSuite X.env n pos) Q X.xe s3:=fun {σ' H' Q} J k=>by
   have J':=Inv.unhand I.ok.hd J
   have hlt:i < σ'.length:=by rw [J'.len];exact (List.getElem?_eq_some_iff.mp hi).1
   refine wpAny_bind (wpAny_bindName (qaK J' hN hi (.inl hx) (v:=.non) rfl (fun s4 J4=>?_) (.inr hx)))
   refine wpAny_onRaise (unbind_ok J4 hN hi hx (v:=.non) (by rw [List.getElem?_set_self hlt]) fun s5 J5=>k s5 ?_)
   rw [List.set_set] at J5
   exact J5
  cases f with
  | next=>obtain ⟨σ',H',J,z⟩:=hf;exact fin J fun s4 J4=>⟨_,H',J4,z⟩
  | brk=>obtain ⟨σ',H',J,z⟩:=hf;exact fin J fun s4 J4=>⟨_,H',J4,z⟩
  | cont=>obtain ⟨σ',H',J,z⟩:=hf;exact fin J fun s4 J4=>⟨_,H',J4,z⟩
  | ret u=>obtain ⟨v,σ',H',J,r,z⟩:=hf;exact fin J fun s4 J4=>⟨v,_,H',J4,r,z⟩
theorem ph_no (hK:X.K=K) (hg:Gl X c) (hm:X.mg c=some (.ref D)) (hb:PSs (X.hand a) (b0::body) tb) (hr:PH X a C dx rest tr) (hdb:(c==("__debug__":Str))=false:=by decide) :
  PH X a C dx (.ExceptHandler (some (.Name c cp)) none (b0::body) pos::rest) (thNo K C D tb tr):=by
 subst hK
 intro pins s σ H Z I hl h
 obtain ⟨b,hb1,xd,xc,q⟩:=h
 obtain ⟨vs,he⟩:=(show IsX H a C dx from .inr hl.at_).get I.hok
 refine wpAny_handleBy_cons (codeAny_handlers_test ?_) (by intro q;cases q)
 refine zl (X:=X.hand a) (I.hand a) hg hm (qeB I.kIn he rfl xd hb1 ?_) hdb
 cases b with
 | false=>exact hr pins s σ H Z I hl q
 | true =>
  obtain ⟨T,t,lo⟩:=hl.tr
  refine codeAny_handlers_suite (qa2 t fun h1 t1 k1 sz1=>?_)
  have kk:Keep (frs X.stack) [T] s.heap h1:=⟨fun b o e z _=>k1 b o (by simpa using z) e,fun b o e z _=>⟨o.slots,k1 b o (by simpa using z) e⟩⟩
  have I1:=I.noted hl.at_ kk (fun b hb=>.inr (by rw [List.mem_singleton.mp hb];exact lo)) t1
  have q':tb Z σ H:=q
  refine wpAny_mono (hb pins _ σ H Z (I1.hand a) q') (fun f s3 hf=>?_) fun _ _ z=>z.elim
  cases f with
  | next=>obtain ⟨σ',H',J,z⟩:=hf;exact ⟨σ',H',Inv.unhand I.ok.hd J,z⟩
  | brk=>obtain ⟨σ',H',J,z⟩:=hf;exact ⟨σ',H',Inv.unhand I.ok.hd J,z⟩
  | cont=>obtain ⟨σ',H',J,z⟩:=hf;exact ⟨σ',H',Inv.unhand I.ok.hd J,z⟩
  | ret u=>obtain ⟨v,σ',H',J,r,z⟩:=hf;exact ⟨v,σ',H',Inv.unhand I.ok.hd J,r,z⟩
end
end L2
namespace L2
open PySem PySem.Spec PyProof.Rows
def tTry (X:Cx) (body:List Stmt) (hs:List ExceptHandler) (te:TS):TS:=fun D σ H=>∃ (EK:St→XK) (tb:TS),(∀ pn xe,XOk (X.tried pn xe) EK→PSs (X.tried pn xe) body tb) ∧
 tb { nx:=te D,rt:=D.rt,bk:=D.bk,ct:=D.ct } σ H∧∀ (a C:Addr) (dx:Option Addr) (σ':St) (H':Hp),EK σ' (.ref C) dx H'→H' a=some (XO a C dx)→∃ th,PH X a C dx hs th∧th D σ' H'
section
variable {X:Cx} {body orelse:List Stmt} {h0:ExceptHandler} {hs:List ExceptHandler} {pos:Pos} {te:TS}
theorem ps_try (hc:X.calm=true) (hst:X.stack=X.env::X.outer) (hfr:X.env.frame=some X.env.locals) (ho:PSs X orelse te):PS X (.Try body (h0::hs) orelse [] pos) (tTry X body (h0::hs) te):=by
 intro pins s σ H D I h
 obtain ⟨EK,tb,hb,q,hh⟩:=h
 have hfs:X.A.frames=some (X.env::X.outer):=by rw [← hst];exact I.ok.frames
 let xe':Value→Shared→Prop:=fun e s1=>∃ (a C:Addr) (dx:Option Addr) (σ':St) (H':Hp),e=.ref a∧Inv X pins σ' H' s1∧H' a=some (XO a C dx)∧EK σ' (.ref C) dx H' ∧
  ((∃ T,Trc s1.heap a (.ref C) dx T .none∧Loose X pins H' T)∨∃ a0,s1.heap.get? a=some ⟨.ref C,dx,.fields (xfs a0),#[]⟩)
 have XX:XOk (X.tried (X.pn++pins) xe') EK:=by
  refine ⟨fun pins' σ' H1 s1 e s2 J hx=>?_,fun pins' σ' H1 s1 a C dx J e z=>?_,hc⟩
  ·obtain ⟨a,C,dx,T,H',rfl,hos,hbr,un,hok,ha,t,hT,hTn,z⟩:=hx
   have J1:=J.call' (s':=s2) (H':=H') (ch:=[]) hos un hok hbr (fun b z=>absurd z (by simp))
   have J0:=Inv.untried J
   exact ⟨a,C,dx,σ',H',rfl,Inv.untried J1,ha,z,.inl ⟨T,t,J0.loose hT hTn⟩⟩
  ·have J0:=Inv.untried J
   obtain ⟨⟨a0,hx⟩,_⟩:=(show ObjOk _ _ H1 s1.heap a (XN a C dx) from J0.hok a _ e)
   have J1:Inv X pins σ' (upd H1 a (XO a C dx)) s1:=J0.write (x:=a) (e:=a) (o:=XO a C dx) (h':=s1.heap) (t':=s1.toks) (by rw [e];exact True.intro) (.inl rfl) (fun _ _ _ q=>q) ⟨_,hx⟩ (XO.ok hx)
   exact ⟨a,C,dx,σ',_,rfl,J1,qb,z,.inr ⟨a0,hx⟩⟩
 have B:=hb (X.pn++pins) xe' XX [] s σ H _ (I.tried xe') q
 refine wpAny_Try_except (wpAny_mono B (fun f s1 hf=>?_) fun e s1 he=>?_)
 ·cases f with
  | next=>obtain ⟨σ',H',J,z⟩:=hf;exact ho pins s1 σ' H' D (Inv.untried J) z
  | brk=>obtain ⟨σ',H',J,z⟩:=hf;exact ⟨σ',H',Inv.untried J,z⟩
  | cont=>obtain ⟨σ',H',J,z⟩:=hf;exact ⟨σ',H',Inv.untried J,z⟩
  | ret u=>obtain ⟨v,σ',H',J,r,z⟩:=hf;exact ⟨v,σ',H',Inv.untried J,r,z⟩
 ·obtain ⟨a,C,dx,σ',H',rfl,J,ha,z,tt⟩:=he
  obtain ⟨th,hp,hq⟩:=hh a C dx σ' H' z ha
  have stk:s1.heap.FunFrames X.base (X.env::X.outer):=by rw [← hst];exact J.stack
  have go:∀ (h':Heap) (T':Addr) (zs:List Addr),s1.heap.objs.size≤T'→Trc h' a (.ref C) dx T' (rawInt X.env.locals)→Keep (frs (X.env::X.outer)) zs s1.heap h'→(∀ b∈zs,b=a∨Loose X pins H' b) →
    wpAny (model X.prog X.w) X.A (setFlight (.ref a) none) (fun _ s3=>wpAny (model X.prog X.w) X.A (handleBy (.ref a) X.env (h0::hs)) (SP X pins D) X.xe s3) X.xe { s1 with heap:=h' }:=fun h' T' zs hs' t' k hz=>by
   have lo:=J.loose hs' (J.hok.fresh hs')
   have J1:=J.noted ha (by rw [hst];exact k) hz t'
   refine qa2 (s:={ s1 with heap:=h' }) t' fun h2 t2 k2 sz2=>?_
   have kk:Keep (frs X.stack) [T'] h' h2:=⟨fun b o e z _=>k2 b o (by simpa using z) e,fun b o e z _=>⟨o.slots,k2 b o (by simpa using z) e⟩⟩
   have J2:=J1.noted ha kk (fun b hb=>.inr (by rw [List.mem_singleton.mp hb];exact lo)) t2
   exact hp pins _ σ' H' D J2 ⟨ha,T',t2,lo⟩ hq
  rcases tt with ⟨T,t,lo⟩ | ⟨a0,hx⟩
  ·refine qc1 (base:=X.base) hfs stk hfr t fun h' T' hs' t' k=>go h' T' _ hs' t' k fun b hb=>?_
   simp only [List.mem_cons,List.not_mem_nil,or_false] at hb
   rcases hb with rfl | rfl
   ·exact .inl rfl
   ·exact .inr lo
  ·refine qbY (base:=X.base) hfs stk hfr hx rfl rfl fun h' T' hs' t' k=>go h' T' _ hs' t' k fun b hb=>?_
   exact .inl (List.mem_singleton.mp hb)
end
end L2
namespace L2
open PySem PySem.Spec PyProof.Rows
def TyX (K:PySem.W.Frag) (H:Hp) (x:V) (t:Value):Prop:=TyOf K H x t∨∃ a C dx,x=.ref a∧t=.ref C∧IsX H a C dx∧XAt K C∧∀ d,dx=some d→∃ fs,H d=some (.xd fs)
theorem TyX.kit {X:Cx} {pins:List (Addr×Obj)} {σ:St} {H:Hp} {s:Shared} {x:V} {u t:Value} (I:Inv X pins σ H s) (rx:RelV x u) (ty:TyX X.K H x t):∃ P:Heap→Prop,PySem.W.KitX X.K u t P∧P s.heap∧u≠.builtin "__main__.__loader__#opaque":=by
 rcases ty with ty | ⟨a,C,dx,rfl,rfl,hx,c,hd⟩
 ·exact ty.kit I rx
 ·cases rx
  obtain ⟨vs,he⟩:=hx.get I.hok
  cases dx with
  | none=>exact ⟨_,qcZ (od:=none) c,⟨he,rfl,rfl,True.intro⟩,fun z=>nomatch z⟩
  | some d =>
   obtain ⟨fs,hf⟩:=hd d rfl
   obtain ⟨od,mA,h1,_⟩:=qet I hf
   exact ⟨_,qcZ (od:=some od) c,⟨he,rfl,rfl,h1⟩,fun z=>nomatch z⟩
def qfv (K:PySem.W.Frag):List V→Hp→VK→Prop:=fun xs H Q=>∃ x y t c b,xs=[x,y]∧TyX K H x t∧qbU y=some c∧PySem.W.kitOne K t c=some b∧Q (.bl b) H
def qeC (K:PySem.W.Frag):List V→Hp→VK→Prop:=fun xs H Q=>∃ x p ys t cs b,xs=[x,.ref p]∧TyX K H x t∧H p=some (.tup ys)∧ys.map qbU=cs.map some∧PySem.W.kitAny K t cs=some b∧Q (.bl b) H
section
variable {X:Cx} {K:PySem.W.Frag}
theorem qbl (hK:X.K=K):zm X (.builtin "isinstance") (qfv K):=by
 subst hK
 intro pins s σ H xs us Q I r h
 obtain ⟨x,y,t,c,b,rfl,ty,hy,hb,q⟩:=h
 obtain ⟨u,v,rfl,ru,rv⟩:=qeh r
 have e:=qbk hy rv
 subst e
 obtain ⟨P,Z,p,ne⟩:=ty.kit I ru
 exact PySem.W.kia_one Z I.kIn p hb ne fun tk=>⟨.bl b,H,I.tok tk,rfl,q⟩
theorem qbt (hK:X.K=K):zm X (.builtin "isinstance") (qeC K):=by
 subst hK
 intro pins s σ H xs us Q I r h
 obtain ⟨x,p,ys,t,cs,b,rfl,ty,hp,hy,hb,q⟩:=h
 obtain ⟨u,v,rfl,ru,rv⟩:=qeh r
 cases rv
 obtain ⟨P,Z,pz,ne⟩:=ty.kit I ru
 obtain ⟨_,its,rv,o,ho,hc,n,hd⟩:=(show ObjOk X.prog X.w H s.heap p (.tup ys) from I.hok p _ hp)
 have e:=qa1 hy rv
 subst e
 obtain ⟨c,dd,dt,sl⟩:=o
 have hc':c=.type "tuple":=hc
 have hd':dt=.seq its.toArray n:=hd
 subst hc' hd'
 exact PySem.W.kia_tup Z I.kIn pz ho hb ne fun tk=>⟨.bl b,H,I.tok tk,rfl,q⟩
end
mutual
inductive EqD (K:PySem.W.Frag) (H:Hp):Nat→V→V→Bool→Prop
 | flat {n:Nat} {x y:V} (fx:zx x=true) (fy:zx y=true):EqD K H n x y (eqV x y)
 | self {n:Nat} {a:Addr}:EqD K H n (.ref a) (.ref a) true
 | deep {n:Nat} {a b:Addr} {k:Bool} (h:EqT K H n a b k) (ne:a≠b):EqD K H n (.ref a) (.ref b) k
inductive EqT (K:PySem.W.Frag) (H:Hp):Nat→Addr→Addr→Bool→Prop
 | lst {n:Nat} {a b:Addr} {xs ys:List V} {e:Nat→Bool} (ha:SqL K H a xs) (hb:SqL K H b ys) (hl:xs.length=ys.length) (he:∀ j x y,xs[j]?=some x→ys[j]?=some y→EqD K H n x y (e j)):EqT K H (n + 1) a b ((List.range xs.length).all e)
 | lstL {n:Nat} {a b:Addr} {xs ys:List V} (ha:SqL K H a xs) (hb:SqL K H b ys) (hl:xs.length≠ys.length):EqT K H (n + 1) a b false
 | tup {n:Nat} {a b:Addr} {xs ys:List V} {e:Nat→Bool} (ha:SqT K H a xs) (hb:SqT K H b ys) (he:∀ j x y,xs[j]?=some x→ys[j]?=some y→EqD K H n x y (e j)):EqT K H (n + 1) a b ((List.range (min xs.length ys.length)).all e&&xs.length==ys.length)
 | lt {n:Nat} {a b:Addr} {xs ys:List V} (ha:SqL K H a xs) (hb:SqT K H b ys):EqT K H (n + 1) a b false
 | tl {n:Nat} {a b:Addr} {xs ys:List V} (ha:SqT K H a xs) (hb:SqL K H b ys):EqT K H (n + 1) a b false
end
theorem jp:∀ {xs:List V} {us:List Value} {j:Nat} {u:Value},Vals xs us→us[j]?=some u→∃ x,xs[j]?=some x∧RelV x u
 | _,_,_,_,.nil,e=>by simp at e
 | _,_,0,_,.cons r _,e=>by simp at e;subst e;exact ⟨_,rfl,r⟩
 | _,_,j + 1,u,.cons _ t,e=>by
  obtain ⟨x,h1,h2⟩:=jp (j:=j) (u:=u) t (by simpa using e)
  exact ⟨x,by simpa using h1,h2⟩
section
variable {X:Cx} {pins:List (Addr×Obj)} {σ:St} {H:Hp} {s:Shared}
theorem qct (I:Inv X pins σ H s):∀ n,(∀ (A:Around) (x y:V) (k:Bool) (u v:Value),EqD X.K H n x y k→RelV x u→RelV y v→A.units + n < cLine→SeqAt.EqAt A s u v k)∧(∀ (A:Around) (a b:Addr) (k:Bool),EqT X.K H n a b k→A.units + n < cLine→SeqAt.RcAt A s (.ref a) (.ref b) k):=by
 intro n
 induction n with
 | zero =>
  have t0:∀ (A:Around) (a b:Addr) (k:Bool),EqT X.K H 0 a b k→A.units + 0 < cLine→SeqAt.RcAt A s (.ref a) (.ref b) k:=fun A a b k h=>by cases h
  refine ⟨fun A x y k u v h rx ry hu=>?_,t0⟩
  cases h with
  | flat fx fy=>exact qdG rx ry fx fy
  | self=>cases rx;cases ry;exact SeqAt.EqAt.same _
  | deep h ne=>cases h
 | succ n ih =>
  have t1:∀ (A:Around) (a b:Addr) (k:Bool),EqT X.K H (n + 1) a b k→A.units + (n + 1) < cLine→SeqAt.RcAt A s (.ref a) (.ref b) k:=fun A a b k h hu=>by
   have hu0:A.units < cLine:=by omega
   have hu1:A.in1.units + n < cLine:=by show A.units + 1 + n < cLine;omega
   cases h with
   | @lst _ _ _ xs ys e ha hb hl he =>
    obtain ⟨its,r,pl,hz⟩:=I.list ha
    obtain ⟨its2,r2,pl2,hz2⟩:=I.list hb
    have e1:xs.length=its.toArray.size:=by rw [List.size_toArray];exact r.length
    have e2:ys.length=its2.toArray.size:=by rw [List.size_toArray];exact r2.length
    rw [e1]
    refine SeqAt.RcAt.lists pl.isList pl2.isList (by rw [← e1,← e2,hl]) hu0 fun j h1 h2=>?_
    have g1:its[j]?=some its.toArray[j]:=by simp
    have g2:its2[j]?=some its2.toArray[j]:=by simp
    obtain ⟨x,hx,rx⟩:=jp r g1
    obtain ⟨y,hy,ry⟩:=jp r2 g2
    exact ih.1 A.in1 x y (e j) _ _ (he j x y hx hy) rx ry hu1
   | @lstL _ _ _ xs ys ha hb hl =>
    obtain ⟨its,r,pl,hz⟩:=I.list ha
    obtain ⟨its2,r2,pl2,hz2⟩:=I.list hb
    refine SeqAt.RcAt.lists_lengths pl.isList pl2.isList ?_ hu0
    rw [List.size_toArray,List.size_toArray,← r.length,← r2.length]
    simp [hl]
   | @tup _ _ _ xs ys e ha hb he =>
    obtain ⟨its,r,pl,hz⟩:=I.tuple ha
    obtain ⟨its2,r2,pl2,hz2⟩:=I.tuple hb
    have e1:xs.length=its.toArray.size:=by rw [List.size_toArray];exact r.length
    have e2:ys.length=its2.toArray.size:=by rw [List.size_toArray];exact r2.length
    rw [e1,e2]
    refine SeqAt.RcAt.tuples pl pl2 hu0 fun j h1 h2=>?_
    have g1:its[j]?=some its.toArray[j]:=by simp
    have g2:its2[j]?=some its2.toArray[j]:=by simp
    obtain ⟨x,hx,rx⟩:=jp r g1
    obtain ⟨y,hy,ry⟩:=jp r2 g2
    exact ih.1 A.in1 x y (e j) _ _ (he j x y hx hy) rx ry hu1
   | lt ha hb =>
    obtain ⟨its,r,pl,hz⟩:=I.list ha
    obtain ⟨its2,r2,pl2,hz2⟩:=I.tuple hb
    exact SeqAt.RcAt.list_tuple pl.isList pl2 hu0
   | tl ha hb =>
    obtain ⟨its,r,pl,hz⟩:=I.tuple ha
    obtain ⟨its2,r2,pl2,hz2⟩:=I.list hb
    exact SeqAt.RcAt.tuple_list pl pl2.isList hu0
  refine ⟨fun A x y k u v h rx ry hu=>?_,t1⟩
  cases h with
  | flat fx fy=>exact qdG rx ry fx fy
  | self=>cases rx;cases ry;exact SeqAt.EqAt.same _
  | deep h ne=>cases rx;cases ry;exact SeqAt.EqAt.of_refs ne (t1 A _ _ k h hu)
theorem ne_refs (I:Inv X pins σ H s) {n:Nat} {A:Around} {a b:Addr} {k:Bool} (h:EqT X.K H n a b k) (hu:A.units + n < cLine):SeqAt.RcNeAt A s (.ref a) (.ref b) (!k):=by
 cases n with
 | zero=>cases h
 | succ n =>
  have ih:=qct I n
  have hu0:A.units < cLine:=by omega
  have hu1:A.in1.units + n < cLine:=by show A.units + 1 + n < cLine;omega
  cases h with
  | @lst _ _ _ xs ys e ha hb hl he =>
   obtain ⟨its,r,pl,hz⟩:=I.list ha
   obtain ⟨its2,r2,pl2,hz2⟩:=I.list hb
   have e1:xs.length=its.toArray.size:=by rw [List.size_toArray];exact r.length
   have e2:ys.length=its2.toArray.size:=by rw [List.size_toArray];exact r2.length
   rw [e1]
   refine SeqAt.RcNeAt.lists pl.isList pl2.isList (by rw [← e1,← e2,hl]) hu0 fun j h1 h2=>?_
   obtain ⟨x,hx,rx⟩:=jp r (show its[j]?=some its.toArray[j] by simp)
   obtain ⟨y,hy,ry⟩:=jp r2 (show its2[j]?=some its2.toArray[j] by simp)
   exact ih.1 A.in1 x y (e j) _ _ (he j x y hx hy) rx ry hu1
  | @lstL _ _ _ xs ys ha hb hl =>
   obtain ⟨its,r,pl,hz⟩:=I.list ha
   obtain ⟨its2,r2,pl2,hz2⟩:=I.list hb
   refine SeqAt.RcNeAt.lists_lengths pl.isList pl2.isList ?_ hu0
   rw [List.size_toArray,List.size_toArray,← r.length,← r2.length]
   simp [hl]
  | @tup _ _ _ xs ys e ha hb he =>
   obtain ⟨its,r,pl,hz⟩:=I.tuple ha
   obtain ⟨its2,r2,pl2,hz2⟩:=I.tuple hb
   have e1:xs.length=its.toArray.size:=by rw [List.size_toArray];exact r.length
   have e2:ys.length=its2.toArray.size:=by rw [List.size_toArray];exact r2.length
   rw [e1,e2]
   refine SeqAt.RcNeAt.tuples pl pl2 hu0 fun j h1 h2=>?_
   obtain ⟨x,hx,rx⟩:=jp r (show its[j]?=some its.toArray[j] by simp)
   obtain ⟨y,hy,ry⟩:=jp r2 (show its2[j]?=some its2.toArray[j] by simp)
   exact ih.1 A.in1 x y (e j) _ _ (he j x y hx hy) rx ry hu1
  | lt ha hb =>
   obtain ⟨its,r,pl,hz⟩:=I.list ha
   obtain ⟨its2,r2,pl2,hz2⟩:=I.tuple hb
   exact SeqAt.RcNeAt.list_tuple pl.isList pl2 hu0
  | tl ha hb =>
   obtain ⟨its,r,pl,hz⟩:=I.tuple ha
   obtain ⟨its2,r2,pl2,hz2⟩:=I.list hb
   exact SeqAt.RcNeAt.tuple_list pl pl2.isList hu0
theorem qeD {A:Around} {x y:V} {u v:Value} (rx:RelV x u) (ry:RelV y v) (fx:zx x=true) (fy:zx y=true):SeqAt.RcAt A s u v (eqV x y)∧SeqAt.RcNeAt A s u v (!eqV x y):=by
 cases x with
 | non =>
  cases rx
  cases y with
  | non=>cases ry;exact ⟨SeqAt.RcAt.none_none,SeqAt.RcNeAt.none_none⟩
  | bl b=>cases ry;exact ⟨SeqAt.RcAt.none_bool b,SeqAt.RcNeAt.none_bool b⟩
  | int b=>obtain ⟨t,rfl⟩:=ry;exact ⟨SeqAt.RcAt.none_int b t,SeqAt.RcNeAt.none_int b t⟩
  | str b=>obtain ⟨t,rfl⟩:=ry;exact ⟨SeqAt.RcAt.none_str b t,SeqAt.RcNeAt.none_str b t⟩
  | _=>cases fy
 | bl a =>
  cases rx
  cases y with
  | non=>cases ry;exact ⟨SeqAt.RcAt.bool_none a,SeqAt.RcNeAt.bool_none a⟩
  | bl b=>cases ry;exact ⟨SeqAt.RcAt.bool_bool a b,SeqAt.RcNeAt.bool_bool a b⟩
  | int b=>obtain ⟨t,rfl⟩:=ry;exact ⟨SeqAt.RcAt.bool_int a b t,SeqAt.RcNeAt.bool_int a b t⟩
  | str b=>obtain ⟨t,rfl⟩:=ry;exact ⟨SeqAt.RcAt.bool_str a b t,SeqAt.RcNeAt.bool_str a b t⟩
  | _=>cases fy
 | int a =>
  obtain ⟨t',rfl⟩:=rx
  cases y with
  | non=>cases ry;exact ⟨SeqAt.RcAt.int_none a t',SeqAt.RcNeAt.int_none a t'⟩
  | bl b=>cases ry;exact ⟨SeqAt.RcAt.int_bool a t' b,SeqAt.RcNeAt.int_bool a t' b⟩
  | int b=>obtain ⟨t,rfl⟩:=ry;exact ⟨SeqAt.RcAt.int_int a t' b t,SeqAt.RcNeAt.int_int a t' b t⟩
  | str b=>obtain ⟨t,rfl⟩:=ry;exact ⟨SeqAt.RcAt.int_str a t' b t,SeqAt.RcNeAt.int_str a t' b t⟩
  | _=>cases fy
 | str a =>
  obtain ⟨t',rfl⟩:=rx
  cases y with
  | non=>cases ry;exact ⟨SeqAt.RcAt.str_none a t',SeqAt.RcNeAt.str_none a t'⟩
  | bl b=>cases ry;exact ⟨SeqAt.RcAt.str_bool a t' b,SeqAt.RcNeAt.str_bool a t' b⟩
  | int b=>obtain ⟨t,rfl⟩:=ry;exact ⟨SeqAt.RcAt.str_int a t' b t,SeqAt.RcNeAt.str_int a t' b t⟩
  | str b=>obtain ⟨t,rfl⟩:=ry;exact ⟨SeqAt.RcAt.str_str a t' b t,SeqAt.RcNeAt.str_str a t' b t⟩
  | _=>cases fy
 | _=>cases fx
end
def qfS (K:PySem.W.Frag) (neg:Bool):R2:=fun x y H Q=>(zx x=true∧zx y=true∧Q (.bl (if neg then !eqV x y else eqV x y)) H) ∨
 (∃ a b k n,x=.ref a∧y=.ref b∧n≤60∧EqT K H n a b k∧Q (.bl (if neg then !k else k)) H) ∨
 (∃ a kvs,x=.ref a∧y=.ref a∧H a=some (.dK kvs)∧Q (.bl (!neg)) H)
theorem qa5 {κ:Type} [DecidableEq κ]:∀ {kb:List (κ×Value)} {k:κ} {v:Value},(kb.map (·.1)).Nodup→(k,v)∈kb→valueAt kb k=some v
 | [],_,_,_,h=>by cases h
 | (k',v')::r,k,v,hn,h=>by
  obtain ⟨h1,h2⟩:=List.nodup_cons.mp (show (k'::r.map (·.1)).Nodup from hn)
  unfold valueAt
  rw [List.find?_cons]
  by_cases e:k'=k
  ·subst e
   simp only [decide_true]
   rcases List.mem_cons.mp h with z | z
   ·cases z;rfl
   ·exact absurd (List.mem_map.mpr ⟨(k',v),z,rfl⟩) h1
  ·simp only [e,decide_false]
   rcases List.mem_cons.mp h with z | z
   ·cases z;exact absurd rfl e
   ·exact qa5 h2 z
theorem qcu {A:Around} {s:Shared} {κ:Type} [DecidableEq κ] (kb:List (κ×Value)) (hn:(kb.map (·.1)).Nodup):∀ ka:List (κ×Value),(∀ p∈ka,p∈kb)→PySem.W.KeqHits A s kb ka true
 | [],_=>.nil
 | (k,v)::r,h=>by
  have hv:valueAt kb k=some v:=qa5 hn (h (k,v) List.mem_cons_self)
  exact .hit (e:=true) (b:=true) hv (SeqAt.EqAt.same v) (qcu kb hn r fun p hp=>h p (List.mem_cons_of_mem _ hp))
section
variable {X:Cx} {K:PySem.W.Frag}
theorem k_eqU (hK:X.K=K) (hu:X.A.units + 100 < cLine):OpR X (compareOp .Eq) (qfS K false):=by
 subst hK
 intro pins s σ H x y u v Q I rx ry h
 rcases h with ⟨fx,fy,q⟩ | ⟨a,b,k,n,rfl,rfl,hn,e,q⟩ | ⟨a,kvs,rfl,rfl,ea,q⟩
 ·exact (qeD rx ry fx fy).1 _ _ _ _ ⟨.bl _,H,I,rfl,q⟩
 ·cases rx;cases ry
  exact (qct I n).2 X.A a b k e (by omega) _ _ _ _ ⟨.bl _,H,I,rfl,q⟩
 ·cases rx;cases ry
  obtain ⟨_,hs,vs,r,d⟩:=(show ObjOk X.prog X.w H s.heap a (.dK kvs) from I.hok a _ ea)
  obtain ⟨_,_,_,_,_,_,_,_,nd⟩:=id d
  refine PySem.W.keq_eq hs hs d d (by omega) (fun _=>qcu vs nd vs fun _ h=>h) ?_
  rw [beq_self_eq_true]
  exact ⟨.bl true,H,I,rfl,q⟩
theorem qbZ (hK:X.K=K) (hu:X.A.units + 100 < cLine):OpR X (compareOp .NotEq) (qfS K true):=by
 subst hK
 intro pins s σ H x y u v Q I rx ry h
 rcases h with ⟨fx,fy,q⟩ | ⟨a,b,k,n,rfl,rfl,hn,e,q⟩ | ⟨a,kvs,rfl,rfl,ea,q⟩
 ·exact (qeD rx ry fx fy).2 _ _ _ _ ⟨.bl _,H,I,rfl,q⟩
 ·cases rx;cases ry
  exact ne_refs I e (by omega) _ _ _ _ ⟨.bl _,H,I,rfl,q⟩
 ·cases rx;cases ry
  obtain ⟨_,hs,vs,r,d⟩:=(show ObjOk X.prog X.w H s.heap a (.dK kvs) from I.hok a _ ea)
  obtain ⟨_,_,_,_,_,_,_,_,nd⟩:=id d
  refine PySem.W.keq_ne hs hs d d (by omega) (fun _=>qcu vs nd vs fun _ h=>h) ?_
  rw [beq_self_eq_true]
  exact ⟨.bl false,H,I,rfl,q⟩
end
end L2
namespace L2
open PySem PySem.Spec PyProof.Rows
section
variable {X:Cx} {K:PySem.W.Frag}
def qgt (K:PySem.W.Frag):R2:=fun x y H Q=>rIx K x y H Q∨∃ a v,x=.ref a∧DGet H a y (some v)∧Q v H
theorem qE (hK:X.K=K) (hu:X.A.units + 100 < cLine):IxR X (qgt K):=by
 subst hK
 refine IxR.or ix_seq ?_
 intro value slice pins s σ H x y v u Q I rx ry h hs
 obtain ⟨a,z,rfl,g,q⟩:=h
 cases rx
 exact tail_any (dict_typeIs I g) PySem.F.slot_dict_getitem.lookup (d_getItem (by omega) I g ry fun w' s3 I3 rw'=>⟨z,H,I3,rw',q⟩) hs
def rSetU:qff:=fun o i v H Q=>qeW o i v H Q∨∃ a H',o=.ref a∧DPut H a i v H'∧Q H'
theorem qaj (hu:X.A.units + 100 < cLine):qfY X rSetU:=by
 intro pins s σ H o i v ov iv u Q I ro ri rv h
 rcases h with h | ⟨a,H',rfl,g,q⟩
 ·exact set_list pins s σ H o i v ov iv u Q I ro ri rv h
 ·cases ro
  exact d_setItem (by omega) I g ri rv fun s' I'=>⟨H',I',q⟩
def qfT (K:PySem.W.Frag) (neg:Bool):R2:=fun x y H Q=>rIn K neg x y H Q∨(∃ a o,y=.ref a∧DGet H a x o∧Q (.bl (if neg then !o.isSome else o.isSome)) H) ∨
 (∃ p xs e n,y=.ref p∧SqL K H p xs∧n≤60∧(∀ z∈xs,EqD K H n z x (e z))∧Q (.bl (if neg then !xs.any e else xs.any e)) H)
theorem qeE {pins:List (Addr×Obj)} {σ:St} {H:Hp} {s:Shared} {xs:List V} {its:List Value} {x:V} {u:Value} {e:V→Bool} {n:Nat} {A:Around} (I:Inv X pins σ H s) (r:Vals xs its) (rx:RelV x u) (hu:A.units + n < cLine) (he:∀ z∈xs,EqD X.K H n z x (e z)) :
  ∃ e':Value→Bool,(∀ w,w∈its.toArray→SeqAt.EqAt A s w u (e' w))∧its.toArray.any e'=xs.any e:=by
 classical
 refine ⟨fun w=>decide (∃ z∈xs,RelV z w∧e z=true),fun w hw=>?_,?_⟩
 ·have hw':w∈its:=by simpa using hw
  obtain ⟨j,hj⟩:=List.mem_iff_getElem?.mp hw'
  obtain ⟨z,hz,rz⟩:=jp r hj
  have hm:=List.mem_of_getElem? hz
  have eq:decide (∃ z∈xs,RelV z w∧e z=true)=e z:=by
   cases q:e z with
   | true=>exact decide_eq_true ⟨z,hm,rz,q⟩
   | false =>
    refine decide_eq_false fun ⟨z',_,rz',q'⟩=>?_
    rw [RelV.inj rz' rz,q] at q'
    cases q'
  show SeqAt.EqAt A s w u (decide (∃ z∈xs,RelV z w∧e z=true))
  rw [eq]
  exact (qct I n).1 A z x (e z) w u (he z hm) rz rx hu
 ·rw [Bool.eq_iff_iff,List.any_eq_true]
  constructor
  ·intro h
   have h':its.any (fun w=>decide (∃ z∈xs,RelV z w∧e z=true))=true:=by simpa using h
   obtain ⟨w,_,q⟩:=List.any_eq_true.mp h'
   obtain ⟨z,hz,_,ez⟩:=of_decide_eq_true q
   exact ⟨z,hz,ez⟩
  ·rintro ⟨z,hz,ez⟩
   obtain ⟨j,hj⟩:=List.mem_iff_getElem?.mp hz
   obtain ⟨w,hw,rz⟩:=r.get hj
   have:its.any (fun w=>decide (∃ z∈xs,RelV z w∧e z=true))=true:=List.any_eq_true.mpr ⟨w,List.mem_of_getElem? hw,decide_eq_true ⟨z,hz,rz,ez⟩⟩
   simpa using this
theorem qdV (hK:X.K=K) (hu:X.A.units + 100 < cLine):OpR X (compareOp .In) (qfT K false):=by
 subst hK
 intro pins s σ H x y u v Q I rx ry h
 rcases h with h | ⟨a,o,rfl,g,q⟩ | ⟨p,xs,e,n,rfl,hl,hn,he,q⟩
 ·exact op_in_seq pins s σ H x y u v Q I rx ry h
 ·cases ry
  exact d_in (by omega) I g rx fun s' I'=>⟨.bl _,H,I',rfl,q⟩
 ·cases ry
  obtain ⟨its,r,pl,hz⟩:=I.list hl
  obtain ⟨e',h1,h2⟩:=qeE (A:=X.A.in1) I r rx (by show X.A.units + 1 + n < cLine;omega) he
  exact SeqAt.in_listAt e' pl.isList h1 (by rw [h2];exact ⟨.bl _,H,I,rfl,q⟩)
theorem qbu (hK:X.K=K) (hu:X.A.units + 100 < cLine):OpR X (compareOp .NotIn) (qfT K true):=by
 subst hK
 intro pins s σ H x y u v Q I rx ry h
 rcases h with h | ⟨a,o,rfl,g,q⟩ | ⟨p,xs,e,n,rfl,hl,hn,he,q⟩
 ·exact op_notIn_seq pins s σ H x y u v Q I rx ry h
 ·cases ry
  exact d_notIn (by omega) I g rx fun s' I'=>⟨.bl _,H,I',rfl,q⟩
 ·cases ry
  obtain ⟨its,r,pl,hz⟩:=I.list hl
  obtain ⟨e',h1,h2⟩:=qeE (A:=X.A.in1) I r rx (by show X.A.units + 1 + n < cLine;omega) he
  exact SeqAt.notIn_listAt e' pl.isList h1 (by rw [h2];exact ⟨.bl _,H,I,rfl,q⟩)
def rListU (K:PySem.W.Frag):List V→Hp→VK→Prop:=fun xs H Q=>(∃ p ys,xs=[.ref p]∧(SqL K H p ys∨SqT K H p ys)∧∀ l,H l=none→Q (.ref l) (upd H l (.lst ys))) ∨
 (∃ p kvs,xs=[.ref p]∧H p=some (.dK kvs)∧∀ l,H l=none→Q (.ref l) (upd H l (.lst (kvs.map fun kv=>kV kv.1)))) ∨
 (∃ x,xs=[.str x]∧x.length≤1000∧∀ l,H l=none→Q (.ref l) (upd H l (.lst (x.cps.toList.map fun c=>.str ⟨#[c]⟩))))
theorem qbm {α β:Type} {F:α→β→Prop}:∀ {l:List α} {m:List β} {j:Nat} {a:α},Paired F l m→l[j]?=some a→∃ b,m[j]?=some b∧F a b
 | _,_,_,_,.nil,e=>by simp at e
 | _,_,0,_,.cons r _,e=>by simp at e;subst e;exact ⟨_,rfl,r⟩
 | _,_,j + 1,a,.cons _ t,e=>by
  obtain ⟨b,h1,h2⟩:=qbm (j:=j) (a:=a) t (by simpa using e)
  exact ⟨b,by simpa using h1,h2⟩
theorem qaw:∀ {ys:List V} {us:List Value},ys.length=us.length→(∀ (j:Nat) y u,ys[j]?=some y→us[j]?=some u→RelV y u)→Vals ys us
 | [],[],_,_=>.nil
 | [],_::_,h,_=>by cases h
 | _::_,[],h,_=>by cases h
 | y::ys,u::us,h,q=>.cons (q 0 y u rfl rfl) (qaw (Nat.succ.inj h) fun j y' u' h1 h2=>q (j + 1) y' u' (by simpa using h1) (by simpa using h2))
theorem qcv (hK:X.K=K) (hc:X.calm=true):zm X (.type "list") (rListU K):=by
 subst hK
 intro pins s σ H xs us Q I r h
 rcases h with h | ⟨p,kvs,rfl,ea,q⟩ | ⟨x,rfl,hx,q⟩
 ·exact call_list_of pins s σ H xs us Q I r h
 ·obtain ⟨u,rfl,ru⟩:=qaH r
  cases ru
  obtain ⟨hz,hs,vs,rv,d⟩:=(show ObjOk X.prog X.w H s.heap p (.dK kvs) from I.hok p _ ea)
  obtain ⟨ep,hat⟩:=d.dictAt
  have hl:kvs.length=vs.length:=rv.length
  refine PySem.W.kdl_call (PySem.W.kdl_dict (knd:=jC X.prog X.w) (kvs:=vs) (ep:=ep) hs) (I.ok.hd hc) hat (by rw [← hl];exact hz) fun h' tk acc' c' kp e it=>?_
  obtain ⟨i1,i2⟩:=it
  have hv:Vals (kvs.map fun kv=>kV kv.1) acc'.toList:=by
   refine qaw (by rw [List.length_map,hl,← i1];simp) fun j y u h1 h2=>?_
   obtain ⟨k,x,h3,h4⟩:=i2 j u (by simpa using h2)
   rw [List.getElem?_map] at h1
   cases q1:kvs[j]? with
   | none=>rw [q1] at h1;cases h1
   | some kv =>
    rw [q1] at h1
    cases h1
    obtain ⟨q2,h5,h6,h7⟩:=qbm rv q1
    rw [h3] at h5
    cases h5
    have e1:kv.1=k:=h6
    show RelV (kV kv.1) u
    rw [e1]
    rcases qQ (show qci k u=true from h4) with ⟨i,t,rfl,rfl⟩ | ⟨z,t,rfl,rfl⟩
    ·exact ⟨t,rfl⟩
    ·exact ⟨t,rfl⟩
  refine ⟨.ref s.heap.objs.size,_,I.laid (t':=tk) kp (Nat.le_refl _) (show ObjOk X.prog X.w _ h' _ (.lst (kvs.map fun kv=>kV kv.1)) from ⟨by rw [List.length_map];exact hz,acc'.toList,c',hv,by simpa using e⟩),rfl,q _ (I.hok.fresh (Nat.le_refl _))⟩
 ·obtain ⟨u,rfl,t,rfl⟩:=qaH r
  have hsz:x.cps.size≤sizeLine:=Nat.le_of_lt (qh hx)
  refine call_list_str (I.ok.hd hc) x t (fun h' tk acc' c' kp e it=>?_) hsz
  obtain ⟨i1,i2⟩:=it
  have hv:Vals (x.cps.toList.map fun c=>V.str ⟨#[c]⟩) acc'.toList:=by
   refine qaw (by rw [List.length_map];simp [i1]) fun j y u h1 h2=>?_
   obtain ⟨c,t',h3,rfl⟩:=i2 j u (by simpa using h2)
   rw [List.getElem?_map] at h1
   have h3':x.cps.toList[j]?=some c:=by simpa using h3
   rw [h3'] at h1
   cases h1
   exact ⟨t',rfl⟩
  refine ⟨.ref s.heap.objs.size,_,I.laid (t':=tk) kp (Nat.le_refl _) (show ObjOk X.prog X.w _ h' _ (.lst (x.cps.toList.map fun c=>V.str ⟨#[c]⟩)) from ⟨by rw [List.length_map];simpa using hsz,acc'.toList,c',hv,by simpa using e⟩),rfl,q _ (I.hok.fresh (Nat.le_refl _))⟩
end
structure CMethOk (P:Program) (w:World) (K:PySem.W.Frag) (mg:Str→Option Value) (base:Heap) (CX:CXT) (k:Nat) (C:Addr) (x m:Str) (ps:List Str) (sp:Sp):Prop where
 ex:∃ f fd,FnOk P w K mg base CX k f fd ps sp∧CMeth K C m f∧Binds K fd ps []
 mg_:mg x=some (.ref C)
section
variable {X:Cx} {k:Nat} {C:Addr} {ps:List Str} {sp:Sp} {x m:Str} {p pos apos:Pos} {e:Expr} {es:List Expr} {t:TA}
theorem pe_makeQ (D:MakeOk X.prog X.w X.K X.mg X.base CX0 k C x ps sp) (hr:Room (k + 1) X.A) (ha:PA X (e::es) t) (hg:Gl X x:=by rfl) (hdb:(x==("__debug__":Str))=false:=by decide)
  (he:starEach (e::es) X.env=(false,eval e X.env)::starEach es X.env:=by rfl) (hpl:(backTo pos (starEach es X.env)).any (·.1)=false:=by rfl):PE X (.Call (.Name x p) (e::es) [] pos) (qeV C sp [] E0 t):=by
 obtain ⟨f,fd,F,M,hb⟩:=D.ex
 exact pe_make M F hr hg D.mg_ hb .nil qC ha hdb he hpl
theorem zq {pl:Sem Bool} (D:CMethOk X.prog X.w X.K X.mg X.base CX0 k C x m ps sp) (hr:Room k X.A) (ha:PA X (e::es) t) (hg:Gl X x:=by rfl) (hdb:(x==("__debug__":Str))=false:=by decide)
  (hst:starEach (e::es) X.env=(false,eval e X.env)::starEach es X.env:=by rfl) (hpl:(backTo pos (starEach es X.env)).any (·.1)=false:=by rfl)
  (ht:eval (.Call (.Attribute (.Name x p) m apos) (e::es) [] pos) X.env=(do
   let ov ← eval (.Name x p) X.env
   standAt apos.atName
   let (f,first) ← holding [ov] (getMethod ov m pl)
   callWith pos f first (backTo pos (starEach (e::es) X.env)) (backToKw pos (keywordEach [] X.env))):=by rfl) :
  PE X (.Call (.Attribute (.Name x p) m apos) (e::es) [] pos) (qdB sp [] E0 t):=by
 obtain ⟨f,fd,F,M,hb⟩:=D.ex
 exact pe_clsm (pl:=pl) M F hr hg D.mg_ hb qC ha hdb hst hpl ht
end
end L2
namespace L2
open PySem PySem.Spec PyProof.Rows
theorem own_eq_same {prog:Program} {w:World} {A:Around} {E:Value→Shared→Prop} {s:Shared} {K:PySem.W.Frag} {x C:Addr} {ox:Obj} {od:Option Obj} {Q:Value→Shared→Prop} (hu:A.units < cLine) (X:K.In s.heap) (I:PySem.W.InstAt s.heap x ox C od)
  (hs:PySem.W.findIn K (.ref C) "__eq__"=some (some (.builtin "object.__eq__"))) (ho:PySem.W.mroIn K C (.type "object")=some true) (h:Q (.bool true) s):wpAny (model prog w) A (richCompare .Eq (.ref x) (.ref x)) Q E s:=by
 have call1:∀ {A':Around} {Q':Value→Shared→Prop},Q' (.bool true) s→wpAny (model prog w) A' (call (.builtin "object.__eq__") [.ref x,.ref x]) Q' E s:=fun {A' Q'} q=>by
  refine wpAny_call (codeAny_call_builtin PySem.F.slot_object_eq.plain PySem.F.entry_object_eq (@PySem.W.check_slot (model prog w) _ _ s "object.__eq__" "object" "__eq__" (.ref x) [.ref x] [] _ (by decide +kernel) (by decide +kernel) (I.type.andThen (PySem.W.looks_mroIn X ho)) (PySem.F.args_object_eq_2 _ _) ?_))
  refine wpAny_bind (wpAny_pure (wpAny_bind (wpAny_isSame_ref_self ?_)))
  exact wpAny_pure q
 have one:wpAny (model prog w) A (tryCompare (.ref x) "__eq__" (.ref x)) (fun r s'=>∃ v,r=some v∧Q v s') E s:=by
  unfold tryCompare
  refine wpAny_bind ?_
  simp only [callSpecialIfBound?,bindSpecialIfBound?]
  refine wpAny_holding (wpAny_bind (wpAny_bind (wpAny_bind (I.type.here ((PySem.W.looks_findIn X hs).here ?_)))))
  refine wpAny_bind (wpAny_askSetting (wpAny_ite ?_))
  have b:=PySem.F.slot_object_eq.bind (.ref x)
  have fin:wpAny (model prog w) A (call (.builtin "object.__eq__") ([.ref x]++[.ref x])>>=fun v=>pure (some v)) (fun r s'=>wpAny (model prog w) A (match r with | some .notImplemented | none=>pure none | some v=>pure (some v)) (fun r s'=>∃ v,r=some v∧Q v s') E s') E s:=
   wpAny_bind (call1 (wpAny_pure (wpAny_pure ⟨_,rfl,h⟩)))
  split
  ·exact wpAny_bind (wpAny_of_eq b (wpAny_pure fin))
  ·exact wpAny_tryCatch (wpAny_bind (wpAny_of_eq b (wpAny_pure fin)))
 unfold richCompare
 simp only [oneThing_ref]
 refine wpAny_holding (wpAny_bind (wpAny_cRoomFor hu ?_))
 refine wpAny_bind (I.type.here (wpAny_bind (I.type.here ?_)))
 rw [if_neg (by simp)]
 refine wpAny_bind (wpAny_pure ?_)
 simp only [Bool.false_eq_true,if_false]
 refine wpAny_bind (wpAny_mono one (fun r s' z=>?_) fun _ _ e=>e)
 obtain ⟨v,rfl,hq⟩:=z
 exact wpAny_pure hq
structure OEq (K:PySem.W.Frag) (C:Addr):Prop where
 eq:PySem.W.findIn K (.ref C) "__eq__"=some (some (.builtin "object.__eq__"))
 ob:PySem.W.mroIn K C (.type "object")=some true
def qgu (K:PySem.W.Frag):R2:=fun x y H Q=>qfS K false x y H Q∨∃ a C dx fs,x=.ref a∧y=.ref a∧H a=some (.ins C dx fs)∧OEq K C∧Q (.bl true) H
theorem k_eqW {X:Cx} {K:PySem.W.Frag} (hK:X.K=K) (hu:X.A.units + 100 < cLine):OpR X (compareOp .Eq) (qgu K):=by
 subst hK
 intro pins s σ H x y u v Q I rx ry h
 rcases h with h | ⟨a,C,dx,fs,rfl,rfl,ea,oe,q⟩
 ·exact k_eqU rfl hu pins s σ H x y u v Q I rx ry h
 ·cases rx;cases ry
  obtain ⟨mA,O,_⟩:=qas I.hok ea
  obtain ⟨od,J,_⟩:=O.look
  exact own_eq_same (by omega) I.kIn J oe.eq oe.ob ⟨.bl true,H,I,rfl,q⟩
end L2
namespace L2
open PySem PySem.Spec PyProof.Rows
theorem q8 {X:Cx}:MtR X "list.append" qdH:=mt_append
theorem mtR_extend {X:Cx}:MtR X "list.extend" qdI:=mt_extend
theorem mtR_pop {X:Cx}:MtR X "list.pop" qgn:=mt_pop
theorem mtR_clear {X:Cx}:MtR X "list.clear" qer:=mt_clear
theorem zE:bootBuiltins "ValueError"=some (.type "ValueError"):=by decide +kernel
section
variable {D:Ends} {σ:St} {H:Hp} {Q:VK} {t u:TS} {te ta tb tc:TE} {tas:TA} {K:PySem.W.Frag} {sp:Sp} {E:XK} {EK:St→XK} {C:Addr} {f m:Str}
theorem vFldU (h:ta σ H fun x H1=>(∃ a C dx fs v,x=.ref a∧H1 a=some (.ins C dx fs)∧Cls K C∧NoAttr K C f∧fs.lookup f=some v∧Q v H1) ∨
 (∃ a C dx fs v,x=.ref a∧IsX H1 a C (some dx)∧XAt K C∧NoAttr K C f∧H1 dx=some (.xd fs)∧fs.lookup f=some v∧Q v H1)):qft K ta f σ H Q:=h
theorem vSFldU (h:te σ H fun y H1=>ta σ H1 fun x H2=>(∃ a C dx fs,x=.ref a∧H2 a=some (.ins C dx fs)∧Cls K C∧NoAttr K C f∧fs.length < 1000∧D.nx σ (upd H2 a (.ins C dx (jF f y fs)))) ∨
 (∃ a C,x=.ref a∧H2 a=some (XN a C none)∧XAt K C∧NoAttr K C f∧∀ dx,H2 dx=none→D.nx σ (upd (upd H2 dx (.xd [(f,y)])) a (XN a C (some dx))))):qfu K ta te f D σ H:=h
theorem vXMake (h:tas σ H fun vs H1=>vs.length≤1000∧∀ x,H1 x=none→sp (.ref x::vs) (upd H1 x (XN x C none)) (fun v H2=>v=.non∧Q (.ref x) H2) E):qdT C sp E tas σ H Q:=h
theorem vMake (h:tas σ H fun vs H1=>∀ x dx,H1 x=none→H1 dx=none→dx≠x→sp (.ref x::(vs++[])) (upd (upd H1 dx (.own x)) x (.ins C dx [])) (fun v H2=>v=.non∧Q (.ref x) H2) E):qeV C sp [] E tas σ H Q:=h
theorem vMeth (h:ta σ H fun x H1=>∃ a dx fs,x=.ref a∧H1 a=some (.ins C dx fs)∧fs.lookup m=none∧tas σ H1 fun vs H2=>sp (x::(vs++[])) H2 Q E):qdC C m sp [] E ta tas σ H Q:=h
theorem vVinit (h:tas σ H fun vs H1=>∃ a C y,vs=[.ref a,y]∧H1 a=some (XN a C none)∧XAt K C∧Q .non H1):qeu K tas σ H Q:=h
theorem vCallS (h:tas σ H fun vs H1=>sp vs H1 Q (EK σ)):qey sp EK tas σ H Q:=h
theorem vMethS (h:ta σ H fun x H1=>∃ a dx fs,x=.ref a∧H1 a=some (.ins C dx fs)∧fs.lookup m=none∧tas σ H1 fun vs H2=>sp (x::vs) H2 Q (EK σ)):qez C m sp EK ta tas σ H Q:=h
theorem vMakeS (h:tas σ H fun vs H1=>∀ x dx,H1 x=none→H1 dx=none→dx≠x→sp (.ref x::vs) (upd (upd H1 dx (.own x)) x (.ins C dx [])) (fun v H2=>v=.non∧Q (.ref x) H2) (EK σ)):qeA C sp EK tas σ H Q:=h
theorem vRaise (h:te σ H fun x H1=>∃ a C dx,x=.ref a∧H1 a=some (XN a C dx)∧XAt K C∧EK σ (.ref C) dx (upd H1 a (XO a C dx))):qex K EK te D σ H:=h
theorem qcw {x y:V} {t cv:Value} {b:Bool} (ty:TyX K H x t) (hy:qbU y=some cv) (hb:PySem.W.kitOne K t cv=some b) (h:Q (.bl b) H):qfv K [x,y] H Q:=⟨x,y,t,cv,b,rfl,ty,hy,hb,h⟩
end
end L2
namespace L2
open PySem PySem.Spec PyProof.Rows
section
variable {prog:Program} {w:World} {A:Around} {E:Value→Shared→Prop} {s:Shared}
theorem none_dict {a:Addr} {Q:Value→Shared→Prop} (hT:s.TypeIs (.ref a) "dict") (hu:A.units < cLine) (h:Q (.bool false) s):wpAny (model prog w) A (richCompare .Eq .none (.ref a)) Q E s:=by
 refine SeqAt.rc_eq_decline_or (k:=false) rfl hT (by decide) PySem.F.sub_dict_NoneType PySem.F.slot_NoneType_eq PySem.F.slot_dict_eq_refl
  (fun _ hq=>call_gives PySem.F.slot_NoneType_eq rfl PySem.F.entry_NoneType_eq (PySem.F.args_NoneType_eq_2 _ _) (SeqAt.NoneType___eq___none_ref_0 a) hq) (fun Q' hq=>?_) (fun _ hq=>wpAny_of_eq (rfl:isSame .none (.ref a)=pure false) hq) (.inr hu) h
 refine wpAny_call_entry PySem.F.slot_dict_eq_refl hT PySem.F.entry_dict_eq ?_ (PySem.F.args_dict_eq_2 _ _)
 show wpAny _ _ (Builtin.Dict.dictSlotArgs "__eq__" ⟨[.ref a,.none],[]⟩>>=_) _ _ s
 refine wpAny_bind ?_
 unfold Builtin.Dict.dictSlotArgs
 refine wpAny_bind (wpAny_notOrdered_dict hT ?_)
 show wpAny _ _ (pure (Value.ref a,Value.none)) _ _ s
 refine wpAny_pure ?_
 refine wpAny_bind (wpAny_isInstance (T:="NoneType") (b:=false) rfl PySem.F.sub_NoneType_dict ?_)
 simp only [Bool.not_false,if_true]
 exact wpAny_bind (wpAny_rule (wpAny_pure ⟨_,rfl,hq⟩))
theorem none_own {K:PySem.W.Frag} {x C:Addr} {ox:Obj} {od:Option Obj} {Q:Value→Shared→Prop} (hu:A.units < cLine) (X:K.In s.heap) (I:PySem.W.InstAt s.heap x ox C od) (oe:OEq K C) (hn:PySem.W.mroIn K C (.type "NoneType")=some false)
  (h:Q (.bool false) s):wpAny (model prog w) A (richCompare .Eq .none (.ref x)) Q E s:=by
 have t1:wpAny (model prog w) A (tryCompare .none "__eq__" (.ref x)) (fun r s'=>r=none∧s'=s) E s:=by
  unfold tryCompare
  refine wpAny_bind ?_
  simp only [callSpecialIfBound?,bindSpecialIfBound?]
  refine wpAny_holding (wpAny_bind (wpAny_bind ?_))
  refine wpAny_bind (wpAny_of_eq (rfl:typeOf .none=pure (.type "NoneType")) ?_)
  refine wpAny_of_eq PySem.F.slot_NoneType_eq.lookup ?_
  refine wpAny_bind (wpAny_askSetting (wpAny_ite ?_))
  have fin:wpAny (model prog w) A (call (.builtin "NoneType.__eq__") ([.none]++[.ref x])>>=fun v=>pure (some v)) (fun r s'=>wpAny (model prog w) A (match r with | some .notImplemented | none=>pure none | some v=>pure (some v)) (fun r s'=>r=none∧s'=s) E s') E s:=
   wpAny_bind (call_gives PySem.F.slot_NoneType_eq rfl PySem.F.entry_NoneType_eq (PySem.F.args_NoneType_eq_2 _ _) (SeqAt.NoneType___eq___none_ref_0 x) (wpAny_pure (wpAny_pure ⟨rfl,rfl⟩)))
  split
  ·exact wpAny_bind (wpAny_of_eq (PySem.F.slot_NoneType_eq.bind .none) (wpAny_pure fin))
  ·exact wpAny_tryCatch (wpAny_bind (wpAny_of_eq (PySem.F.slot_NoneType_eq.bind .none) (wpAny_pure fin)))
 have t2:wpAny (model prog w) A (tryCompare (.ref x) "__eq__" .none) (fun r s'=>r=none∧s'=s) E s:=by
  unfold tryCompare
  refine wpAny_bind ?_
  simp only [callSpecialIfBound?,bindSpecialIfBound?]
  refine wpAny_holding (wpAny_bind (wpAny_bind (wpAny_bind (I.type.here ((PySem.W.looks_findIn X oe.eq).here ?_)))))
  refine wpAny_bind (wpAny_askSetting (wpAny_ite ?_))
  have b:=PySem.F.slot_object_eq.bind (.ref x)
  have c:∀ {Q':Value→Shared→Prop},Q' .notImplemented s→wpAny (model prog w) A (call (.builtin "object.__eq__") [.ref x,.none]) Q' E s:=fun {Q'} q=>by
   refine wpAny_call (codeAny_call_builtin PySem.F.slot_object_eq.plain PySem.F.entry_object_eq (@PySem.W.check_slot (model prog w) _ _ s "object.__eq__" "object" "__eq__" (.ref x) [.none] [] _ (by decide +kernel) (by decide +kernel) (I.type.andThen (PySem.W.looks_mroIn X oe.ob)) (PySem.F.args_object_eq_2 _ _) ?_))
   refine wpAny_bind (wpAny_pure (wpAny_bind (wpAny_of_eq (rfl:isSame (.ref x) .none=pure false) ?_)))
   exact wpAny_pure q
  have fin:wpAny (model prog w) A (call (.builtin "object.__eq__") ([.ref x]++[.none])>>=fun v=>pure (some v)) (fun r s'=>wpAny (model prog w) A (match r with | some .notImplemented | none=>pure none | some v=>pure (some v)) (fun r s'=>r=none∧s'=s) E s') E s:=
   wpAny_bind (c (wpAny_pure (wpAny_pure ⟨rfl,rfl⟩)))
  split
  ·exact wpAny_bind (wpAny_of_eq b (wpAny_pure fin))
  ·exact wpAny_tryCatch (wpAny_bind (wpAny_of_eq b (wpAny_pure fin)))
 unfold richCompare
 refine wpAny_holding (wpAny_bind (wpAny_cRoomFor hu ?_))
 show wpAny _ _ (typeOf .none>>=_) _ _ _
 refine wpAny_bind (wpAny_of_eq (rfl:typeOf .none=pure (.type "NoneType")) (wpAny_bind (I.type.here ?_)))
 rw [if_pos (by rfl)]
 refine wpAny_bind ((PySem.W.looks_mroIn X hn).here ?_)
 simp only [Bool.false_eq_true,if_false]
 refine wpAny_bind (wpAny_mono t1 (fun r s' z=>?_) fun _ _ e=>e)
 obtain ⟨rfl,rfl⟩:=z
 simp only [Bool.not_false,if_true]
 refine wpAny_bind (wpAny_mono t2 (fun r s' z=>?_) fun _ _ e=>e)
 obtain ⟨rfl,rfl⟩:=z
 refine wpAny_bind (wpAny_rule (wpAny_bind (wpAny_of_eq (rfl:isSame .none (.ref x)=pure false) (wpAny_pure h))))
end
def rNoneRef (K:PySem.W.Frag):R2:=fun x y H Q=>∃ a,x=.non∧y=.ref a∧((∃ xs,SqL K H a xs∨SqT K H a xs)∨(∃ kvs,H a=some (.dK kvs))∨∃ C dx fs,H a=some (.ins C dx fs)∧OEq K C∧PySem.W.mroIn K C (.type "NoneType")=some false)∧Q (.bl false) H
def qgv (K:PySem.W.Frag):R2:=fun x y H Q=>qgu K x y H Q∨rNoneRef K x y H Q
theorem za {X:Cx} {K:PySem.W.Frag} (hK:X.K=K) (hu:X.A.units + 100 < cLine):OpR X (compareOp .Eq) (qgv K):=by
 intro pins s σ H x y u v Q I rx ry h
 rcases h with h | ⟨a,rfl,rfl,h,q⟩
 ·exact k_eqW hK hu pins s σ H x y u v Q I rx ry h
 ·subst hK
  cases rx;cases ry
  have fin:EP X pins σ Q (.bool false) s:=⟨.bl false,H,I,rfl,q⟩
  rcases h with ⟨xs,hl | hl⟩ | ⟨kvs,ea⟩ | ⟨C,dx,fs,ea,oe,hn⟩
  ·obtain ⟨its,r,pl,_⟩:=I.list hl
   exact SeqAt.RcAt.none_list pl.isList (by omega) _ _ _ _ fin
  ·obtain ⟨its,r,pl,_⟩:=I.tuple hl
   exact SeqAt.RcAt.none_tuple pl (by omega) _ _ _ _ fin
  ·obtain ⟨_,_,vs,_,d⟩:=(show ObjOk X.prog X.w H s.heap a (.dK kvs) from I.hok a _ ea)
   exact none_dict d.typeIs (by omega) fin
  ·obtain ⟨mA,O,_⟩:=qas I.hok ea
   obtain ⟨od,J,_⟩:=O.look
   exact none_own (by omega) I.kIn J oe hn fin
end L2
namespace L2
open PySem PySem.Spec PyProof.Rows
def XL (K:PySem.W.Frag) (C:Addr) (bm:List Value):Prop:=∃ nm qn N bs hdct sn sub ab col dd k0 k1 k2 k3 k5,K.lookup C=some (excClassObj nm qn C N bs bm hdct sn sub ab col dd k0 k1 k2 k3 k5 "ValueError.__new__")
section
variable {K:PySem.W.Frag} {C D:Addr} {bm bn:List Value}
theorem XL.xat (x:XL K C bm) (hb:qbB bm=true)
  (ga:PySem.W.findIn K (.ref C) "__getattribute__"=some (some (.builtin "BaseException.__getattribute__"))) (gn:PySem.W.findIn K (.ref C) "__getattr__"=some none)
  (bx:PySem.W.mroIn K C (.type "BaseException")=some true) (ob:PySem.W.mroIn K C (.type "object")=some true) (hd:PySem.W.hasDictIn K C=true) (cl:PySem.W.findIn K (.ref C) "__class__"=some (some (.builtin "object.__class__")))
  (cg:PySem.W.specialIn K (.builtin "object.__class__") "__get__"=some (some (.builtin "getset_descriptor.__get__"))) (ct:PySem.W.takesIn K (.builtin "object.__class__")=some true)
  (sa:PySem.W.findIn K (.ref C) "__setattr__"=some (some (.builtin "object.__setattr__"))):XAt K C:=by
 obtain ⟨nm,qn,N,bs,hdct,sn,sub,ab,col,dd,k0,k1,k2,k3,k5,e⟩:=x
 refine ⟨ga,gn,bx,ob,hd,cl,cg,ct,sa,?_,?_⟩
 ·unfold PySem.W.clsIn
  rw [e]
  exact hb
 ·unfold qfR
  rw [e]
  simp [hb]
theorem XL.kit (x:XL K C bm) (y:XL K D bn):PySem.W.kitOne K (.ref C) (.ref D)=some ((Value.ref C::bm).contains (.ref D)):=by
 obtain ⟨nm,qn,N,bs,hdct,sn,sub,ab,col,dd,k0,k1,k2,k3,k5,e⟩:=x
 obtain ⟨nm',qn',N',bs',hdct',sn',sub',ab',col',dd',k0',k1',k2',k3',k5',e'⟩:=y
 unfold PySem.W.kitOne PySem.W.kitCls
 split
 ·rename_i z
  have z:C=D:=Value.ref.inj (beq_iff_eq.mp z)
  subst z
  simp
 ·dsimp only
  have q1:(PySem.W.clsIn K D).isSome=true:=by unfold PySem.W.clsIn;rw [e'];rfl
  have q2:(PySem.W.typeIn K (.ref D)==some (.type "type"))=true:=by show ((K.lookup D).map (·.cls)==_)=true;rw [e'];rfl
  rw [if_pos (by rw [q1,q2];rfl)]
  unfold PySem.W.subIn PySem.W.mroIn PySem.W.clsIn
  dsimp only
  rw [e]
  rfl
theorem XL.kitT (x:XL K C bm) {T:String} (h:PySem.W.kitMeta T=true):PySem.W.kitOne K (.ref C) (.type T)=some (bm.contains (.type T)):=by
 obtain ⟨nm,qn,N,bs,hdct,sn,sub,ab,col,dd,k0,k1,k2,k3,k5,e⟩:=x
 unfold PySem.W.kitOne PySem.W.kitCls
 split
 ·rename_i z
  exact absurd (beq_iff_eq.mp z) nofun
 ·dsimp only
  rw [if_pos h]
  unfold PySem.W.subIn PySem.W.mroIn PySem.W.clsIn
  dsimp only
  rw [e]
  show some ((Value.ref C::bm).contains _)=_
  rw [List.contains_cons]
  rfl
abbrev qax:List Value:=[.type "ValueError",.type "Exception",.type "BaseException",.type "object"]
theorem qdW:qbB qax=true:=by decide
theorem zW {c:Addr}:qbB (.ref c::qax)=true:=qdW
theorem kits {K:PySem.W.Frag} {cs:List Addr} {c:Addr} (hn:(cs++[c]).Nodup) (h:∀ i,i < cs.length→XL K (cs.getD i c) (.ref c::qax)) (hc:XL K c qax) :
  (∀ i j,i < cs.length→j < cs.length→PySem.W.kitOne K (.ref (cs.getD i c)) (.ref (cs.getD j c))=some (decide (i=j)))∧(∀ i,i < cs.length + 1→PySem.W.kitOne K (.ref (cs.getD i c)) (.ref c)=some true) ∧
  (∀ i,i < cs.length + 1→PySem.W.kitOne K (.ref (cs.getD i c)) (.type "ValueError")=some true)∧∀ j,j < cs.length→PySem.W.kitOne K (.ref c) (.ref (cs.getD j c))=some false:=by
 have gd:∀ (j:Nat) (hj:j < cs.length),cs.getD j c=cs[j]:=fun j hj=>by simp [List.getD,hj]
 have hl:cs.getD cs.length c=c:=by simp
 have hne:∀ j,j < cs.length→c≠cs.getD j c:=fun j hj e=>by
  have h2:=(List.nodup_append.mp hn).2.2 (cs.getD j c) (by rw [gd j hj];exact List.getElem_mem hj) c (by simp)
  exact h2 e.symm
 refine ⟨fun i j hi hj=>?_,fun i hi=>?_,fun i hi=>?_,fun j hj=>?_⟩
 ·rw [(h i hi).kit (h j hj)]
  congr 1
  rw [List.contains_cons,List.contains_cons]
  have e1:((Value.ref (cs.getD j c))==Value.ref c)=false:=beq_eq_false_iff_ne.mpr fun e=>hne j hj (Value.ref.inj e).symm
  have e2:List.contains qax (Value.ref (cs.getD j c))=false:=rfl
  rw [e1,e2]
  by_cases hij:i=j
  ·subst hij;simp
  ·have e3:((Value.ref (cs.getD j c))==Value.ref (cs.getD i c))=false:=beq_eq_false_iff_ne.mpr fun e=>by
    have e:=Value.ref.inj e
    rw [gd i hi,gd j hj] at e
    have hp:=List.pairwise_iff_getElem.mp (List.nodup_append.mp hn).1
    rcases Nat.lt_or_gt_of_ne hij with q | q
    ·exact hp i j hi hj q e.symm
    ·exact hp j i hj hi q e
   rw [e3];simp [hij]
 ·rcases Nat.lt_or_ge i cs.length with hi' | hi'
  ·rw [(h i hi').kit hc,List.contains_cons,List.contains_cons];simp
  ·have:i=cs.length:=by omega
   subst this
   rw [hl,hc.kit hc];simp
 ·rcases Nat.lt_or_ge i cs.length with hi' | hi'
  ·rw [(h i hi').kitT (by decide +kernel)];rfl
  ·have:i=cs.length:=by omega
   subst this
   rw [hl,hc.kitT (by decide +kernel)];rfl
 ·rw [hc.kit (h j hj),List.contains_cons]
  have e1:((Value.ref (cs.getD j c))==Value.ref c)=false:=beq_eq_false_iff_ne.mpr fun e=>hne j hj (Value.ref.inj e).symm
  rw [e1];rfl
end
end L2
namespace HT
open PySem PySem.Spec PyProof.Rows
section
variable {prog:Program} {w:World} {A:Around} {E:Value→Shared→Prop} {s:Shared}
end
end HT
namespace L2
open PySem PySem.Spec PyProof.Rows
def tRev (K:PySem.W.Frag) (te:TE) (ts:TO):TE:=fun σ H Q=>te σ H fun x H1=>ts σ H1 fun o H2=>o=some (-1)∧∃ a y z,x=.ref a∧SqT K H2 a [y,z]∧∀ p,H2 p=none→Q (.ref p) (upd H2 p (.tup [z,y]))
theorem vRev {K:PySem.W.Frag} {te:TE} {ts:TO} {σ:St} {H:Hp} {Q:VK} (h:te σ H fun x H1=>ts σ H1 fun o H2=>o=some (-1)∧∃ a y z,x=.ref a∧SqT K H2 a [y,z]∧∀ p,H2 p=none→Q (.ref p) (upd H2 p (.tup [z,y]))):tRev K te ts σ H Q:=h
section
variable {X:Cx} {K:PySem.W.Frag} {e st:Expr} {te:TE} {ts:TO} {p2 pos:Pos}
def rTupleU (K:PySem.W.Frag):List V→Hp→VK→Prop:=fun xs H Q=>∃ p ys,xs=[.ref p]∧((SqL K H p ys∧∀ l,H l=none→Q (.ref l) (upd H l (.tup ys)))∨(SqT K H p ys∧Q (.ref p) H))
theorem k_tupleU (hK:X.K=K):zm X (.type "tuple") (rTupleU K):=by subst hK;exact call_tuple_of
end
end L2
namespace L2
open PySem PySem.Spec PyProof.Rows
theorem Inv.turnedL {X:Cx} {pins:List (Addr×Obj)} {σ:St} {H:Hp} {s:Shared} {h':Heap} {t':Nat} {fp:List Addr} (I:Inv X pins σ H s) (k:∀ b o,b∉fp→s.heap.get? b=some o→h'.get? b=some o) (hf:∀ b∈fp,qco X pins H b):Inv X pins σ H { s with heap:=h',toks:=t' }:=by
 have nit:∀ b u,H b=some u→b∉fp:=fun b u e z=>by rw [(hf b z).1] at e;cases e
 have hL:X.env.locals∉fp:=fun z=>(hf _ z).2.1 rfl
 refine I.step (g':=s.gens) (d':=s.drawn) (ch:=fp) (fun b hb=>?_) (fun b o _ _ hc e _=>k b o hc e) (fun b o _ _ hc e _=>⟨o.slots,k b o hc e⟩) (fun _ _ _ _ n=>n)
  (fun b o hc e=>⟨o,k b o hc e⟩) (fun _ _ e=>e) (fun _ _ _ e=>e) (fun b ps e=>⟨#[],by rw [e];simp⟩) (fun m hm=>?_) (fun b u e=>?_) I.bare
 ·obtain ⟨f0,f1,f2,f3,f4,f5⟩:=hf b hb
  exact ⟨f3,f1,f4,f5⟩
 ·obtain ⟨o,es,ep,ho,r⟩:=hm
  exact ⟨o,es,ep,k _ o hL ho,r⟩
 ·refine (I.hok b u e).stay (fun c v hc q=>k c v ?_ q) (fun _ q=>q) fun _ _ q=>q
  rcases hc with z | z
  ·rw [z];exact nit b u e
  ·exact nit c _ z
def Ite (K:PySem.W.Frag) (a:Addr):It:=
 ⟨fun i H=>∃ xs x,SqL K H a xs∧xs[i]?=some x,fun i H x H'=>∃ t y,x=.ref t∧H t=none∧H'=upd H t (.tup [.int i,y])∧∀ xs,SqL K H a xs→xs[i]?=some y,fun i H=>∃ xs,SqL K H a xs∧xs.length≤i⟩
theorem push_some {h:Heap} {o v:Obj} {b:Addr} (e:(h.push o).get? b=some v) (ne:b≠h.objs.size):h.get? b=some v:=(Heap.get?_push_cases e).elim (fun z=>absurd z.1 ne) fun z=>z
theorem turn_enum {P:Program} {w:World} {K:PySem.W.Frag} {es:List Expr} {x1} {pos:Pos} (a e it:Addr) (hei:e≠it):Turn P w K (.Tuple es x1 pos) (Ite K a) [e,it] e (fun i h=>(∃ old,IsEnum h e it i old)∧h.IsListIter it a i) where
 mem:=by simp
 obj:=fun i h st b hb=>by
  obtain ⟨⟨old,he⟩,o,e1,c,d⟩:=st
  simp only [List.mem_cons,List.not_mem_nil,or_false] at hb
  rcases hb with rfl | rfl
  ·exact ⟨_,he,fun v z=>by
    have z':Data.fields _=Data.cell v:=z
    cases z'⟩
  ·exact ⟨o,e1,fun v z=>by rw [d] at z;cases z⟩
 keep:=fun i h h' st k=>by
  obtain ⟨⟨old,he⟩,hit⟩:=st
  exact ⟨⟨old,k e (by simp) _ he⟩,hit.at fun o x=>k it (by simp) o x⟩
 item:=by
  intro X hP hw hK hc i pins s σ H E I hf st hg
  subst hP hw hK
  obtain ⟨⟨old,he⟩,hit⟩:=st
  obtain ⟨xs,x,hq,hx⟩:=hg
  obtain ⟨its,rv,p,hz⟩:=I.list hq
  obtain ⟨u,hu,ru⟩:=rv.get hx
  refine wpAny_pyNext_enum_item he hit p.isList (x:=u) (by simpa using hu) hei fun h' ho hit' hT hsz hk=>?_
  refine ⟨_,rfl,wpAny_letOwnedTupleGo_enum ho fun h2 he2 hs2=>?_⟩
  have fre:H s.heap.objs.size=none:=I.hok.fresh (Nat.le_refl _)
  have ne1:s.heap.objs.size≠e:=Nat.ne_of_gt (Heap.lt_size he)
  have ne2:s.heap.objs.size≠it:=by obtain ⟨o,e1,_⟩:=hit;exact Nat.ne_of_gt (Heap.lt_size e1)
  have I1:Inv X pins σ (upd H s.heap.objs.size (.tup [.int i,x])) { s with heap:=s.heap.push { cls:=.type "tuple",data:=.seq #[.int i s.toks,u] },toks:=s.toks + 1 }:=
   I.laid (fun b u e=>Heap.get?_push_of_some _ e) (Nat.le_refl _) ⟨by show 2≤sizeLine;decide,[.int i s.toks,u],.cons ⟨_,rfl⟩ (.cons ru .nil),⟨_,Heap.get?_push_size _ rfl,rfl,_,rfl⟩⟩
  have hf1:∀ b∈[e,it],qco X pins (upd H s.heap.objs.size (.tup [.int i,x])) b:=fun b hb=>by
   obtain ⟨f0,f⟩:=hf b hb
   refine ⟨?_,f⟩
   rw [qi]
   ·exact f0
   ·simp only [List.mem_cons,List.not_mem_nil,or_false] at hb
    rcases hb with rfl | rfl
    ·exact ne1.symm
    ·exact ne2.symm
  have kk:∀ b o,b∉[e,it]→(s.heap.push { cls:=.type "tuple",data:=.seq #[.int i s.toks,u] }).get? b=some o→h2.get? b=some o:=fun b o hb z=>by
   simp only [List.mem_cons,List.not_mem_nil,or_false,not_or] at hb
   by_cases hz:b=s.heap.objs.size
   ·subst hz
    rw [Heap.get?_push_size _ rfl] at z
    cases z
    exact (hs2.2 _ ne1).trans hT
   ·exact (hs2.2 b hb.1).trans (hk b o hb.1 hb.2 (push_some z hz))
  have I2:=I1.turnedL (h':=h2) (t':=s.toks + 1) (fp:=[e,it]) kk hf1
  exact ⟨.ref s.heap.objs.size,_,I2,rfl,⟨_,x,rfl,fre,rfl,fun ys hy=>by rw [I.list_inj hy hq];exact hx⟩,⟨⟨_,by simpa using he2⟩,hit'.at fun o y=>(hs2.2 it hei.symm).trans y⟩,fun b hb=>(hf1 b hb).1⟩
 done:=by
  intro X hP hw hK hc i pins s σ H E I hf st hg
  subst hP hw hK
  obtain ⟨⟨old,he⟩,hit⟩:=st
  obtain ⟨xs,hq,hx⟩:=hg
  obtain ⟨its,rv,p,hz⟩:=I.list hq
  have hl:=rv.length
  exact wpAny_pyNext_enum_end (I.ok.hd hc) he hit p.isList (Array.getElem?_eq_none (by simp;omega)) fun h' eb=>⟨rfl,I.turnedL (t':=s.toks) (fp:=[e,it]) (fun b o hb z=>eb b o (fun z'=>hb (by simp [z'])) z) hf⟩
 self:=fun _ _ _ _ _ st h=>by
  obtain ⟨⟨old,he⟩,_⟩:=st
  exact wpAny_pyIter_enum he h
theorem boot_enumerate:bootBuiltins "enumerate"=some (.type "enumerate"):=by decide +kernel
def qfw (K:PySem.W.Frag) (ta:TA):TI:=fun σ H R=>ta σ H fun vs H1=>∃ a xs,vs=[.ref a]∧SqL K H1 a xs∧R (Ite K a) H1
theorem pi_enum {X:Cx} {K:PySem.W.Frag} {a:Expr} {ta:TA} {es:List Expr} {x1} {tp p pos:Pos} (hK:X.K=K) (hg:Gl X "enumerate") (hm:X.mg "enumerate"=none) (ha:PA X [a] ta) (hs:starEach [a] X.env=[(false,eval a X.env)]:=by rfl):PI X (.Tuple es x1 tp) (.Call (.Name "enumerate" p) [a] [] pos) (qfw K ta):=by
 subst hK
 intro pins s σ H R I h
 refine Call_ (qaT I hg hm boot_enumerate (PyProof.Rows.callWith_type1 (thn (ha pos pins s σ H _ I h) fun us s1 ⟨vs,H1,I1,r1,q1⟩=>?_) hs rfl))
 obtain ⟨a,xs,e,hq,q⟩:=q1
 subst e
 cases r1 with
 | cons r rr =>
  cases rr
  cases r
  obtain ⟨its,rv,pl,hz⟩:=I1.list hq
  refine call_enumerate_list pl.isList fun h' he hi hsz hk=>wpAny_pyIter_enum he ?_
  refine ⟨_,[s1.heap.objs.size + 1,s1.heap.objs.size],_,_,H1,rfl,I1.kept (t':=s1.toks) hk,turn_enum a _ _ (Nat.succ_ne_self _),⟨⟨_,he⟩,hi⟩,fun b hb=>?_,q⟩
  simp only [List.mem_cons,List.not_mem_nil,or_false] at hb
  rcases hb with rfl | rfl
  ·exact I1.fpOk (Nat.le_succ _) (I1.hok.fresh (Nat.le_succ _))
  ·exact I1.fpOk (Nat.le_refl _) (I1.hok.fresh (Nat.le_refl _))
theorem for_enum {K:PySem.W.Frag} {a:Addr} {xs:List V} {g:TG} {tb:TS} {D:Ends} {σ:St} {H:Hp} (Pv:Nat→St→Hp→Prop) (h0:Pv 0 σ H) (hl:∀ i σ H,i≤xs.length→Pv i σ H→SqL K H a xs)
  (hs:∀ i x t σ H,xs[i]?=some x→H t=none→Pv i σ H→g (.ref t) σ (upd H t (.tup [.int i,x])) fun σ2 H2=>tb { D with nx:=Pv (i + 1),ct:=Pv (i + 1),bk:=D.nx } σ2 H2) (hd:∀ σ H,Pv xs.length σ H→D.nx σ H) :
  ∃ W:Nat→Nat→St→Hp→Prop,(∃ m,W 0 m σ H)∧∀ i m σ H,W i m σ H →
   ((Ite K a).stop i H∧D.nx σ H)∨((Ite K a).go i H∧∃ N:St→Hp→Prop,(∀ σ' H',N σ' H'→∃ m',m' < m∧W (i + 1) m' σ' H')∧∀ x H',(Ite K a).yld i H x H'→g x σ H' fun σ2 H2=>tb { D with nx:=N,ct:=N,bk:=D.nx } σ2 H2):=by
 refine ⟨fun i m σ H=>m=xs.length - i∧i≤xs.length∧Pv i σ H,⟨xs.length,by simp,Nat.zero_le _,h0⟩,?_⟩
 rintro i m σ H ⟨rfl,hi,p⟩
 have q:=hl i σ H hi p
 by_cases hlt:i < xs.length
 ·refine .inr ⟨⟨xs,xs[i],q,by simp [hlt]⟩,Pv (i + 1),fun σ' H' p'=>⟨xs.length - (i + 1),by omega,rfl,hlt,p'⟩,fun x H' y=>?_⟩
  obtain ⟨t,v,rfl,ht,rfl,y⟩:=y
  exact hs i v t σ _ (y xs q) ht p
 ·have e:i=xs.length:=by omega
  subst e
  exact .inl ⟨⟨xs,q,Nat.le_refl _⟩,hd σ H p⟩
theorem vEnum {K:PySem.W.Frag} {tas:TA} {σ:St} {H:Hp} {R:It→Hp→Prop} (h:tas σ H fun vs H1=>∃ a xs,vs=[.ref a]∧SqL K H1 a xs∧R (Ite K a) H1):qfw K tas σ H R:=h
end L2
namespace L2
open PySem PySem.Spec PyProof.Rows
section
variable {X:Cx}
end
end L2
namespace L2
open PySem PySem.Spec PyProof.Rows PySem.Builtin PySem.Builtin.Str
theorem vDGet2 {td ty tx:TE} {σ:St} {H:Hp} {Q:VK} (h:td σ H fun x H1=>∃ a,x=.ref a∧IsD H1 a∧ty σ H1 fun y H2=>tx σ H2 fun z H3=>∃ o,DGet H3 a y o∧Q (o.getD z) H3):tDGet2 td ty tx σ H Q:=h
end L2
namespace L2
open PySem PySem.Spec PyProof.Rows
section
variable {X:Cx} {K:PySem.W.Frag}
end
theorem qa6 (xs:List V) (k:Nat):qcq xs none (some (k:Int))=xs.take k:=by
 unfold qcq
 rw [HT.sIx_none,HT.sIx_nat,List.drop_zero,Nat.sub_zero]
 by_cases h:k≤xs.length
 ·rw [Nat.min_eq_left h]
 ·rw [Nat.min_eq_right (by omega),List.take_of_length_le (Nat.le_refl _),List.take_of_length_le (by omega)]
theorem qb0 (xs:List V) (k:Nat):qcq xs (some (k:Int)) none=xs.drop k:=by
 unfold qcq
 rw [HT.sIx_none,HT.sIx_nat]
 by_cases h:k≤xs.length
 ·rw [Nat.min_eq_left h,List.take_of_length_le (by rw [List.length_drop];omega)]
 ·rw [Nat.min_eq_right (by omega),List.drop_length,List.drop_of_length_le (by omega)]
  simp
end L2
namespace L2
open PySem PySem.Spec PyProof.Rows
section
variable {X:Cx} {K:PySem.W.Frag}
theorem qc2:∀ {ns:List Int} {us:List Value},Vals (ns.map V.int) us→IntsAre us ns
 | [],_,.nil=>.nil
 | n::ns,_,.cons r t=>by
  obtain ⟨tk,rfl⟩:=r
  exact .cons n tk (qc2 t)
def rSum (K:PySem.W.Frag):List V→Hp→VK→Prop:=fun xs H Q=>∃ (p:Addr) (ns:List Int),xs=[.ref p]∧SqL K H p (ns.map V.int)∧Q (.int ns.sum) H
theorem k_sum (hK:X.K=K) (hc:X.calm=true):zm X (.builtin "sum") (rSum K):=by
 subst hK
 intro pins s σ H xs us Q I r h
 obtain ⟨p,ns,rfl,hq,q⟩:=h
 obtain ⟨u,rfl,ru⟩:=qaH r
 cases ru
 obtain ⟨its,rv,pl,hz⟩:=I.list hq
 have hi:=qc2 rv
 obtain ⟨xs,hx⟩:=hi.allInts.items
 have hl':s.heap.IsList p (intItems xs):=hx ▸ pl.isList
 refine sum_intListG (I.ok.hd hc) hl' fun h' tk t' hk=>?_
 have e1:ns=xs.toList.map (·.1):=by
  rw [← nums_intItems,← hx]
  exact (show numsOf its.toArray.toList=ns from hi.numsOf).symm
 have e2:preSum (numAt xs) xs.size=ns.sum:=by
  rw [preSum_eq,List.take_of_length_le (by simp),e1]
 rw [e2]
 exact ⟨.int _,H,I.kept hk,⟨_,rfl⟩,q⟩
theorem boot_sum:bootBuiltins "sum"=some (.builtin "sum"):=by decide +kernel
end
end L2
namespace HT
open PySem PySem.Spec PyProof.Rows
section
variable {prog:Program} {w:World} {A:Around} {E:Value→Shared→Prop} {s:Shared}
end
end HT
namespace L2
open PySem PySem.Spec PyProof.Rows
def tStep (K:PySem.W.Frag) (te:TE) (ts:TO):TE:=fun σ H Q=>te σ H fun x H1=>ts σ H1 fun o H2=>∃ a y z,x=.ref a∧SqT K H2 a [y,z]∧((o=some (-1)∧∀ p,H2 p=none→Q (.ref p) (upd H2 p (.tup [z,y])))∨(o=some 1∧Q (.ref a) H2))
theorem vStep {K:PySem.W.Frag} {te:TE} {ts:TO} {σ:St} {H:Hp} {Q:VK} (h:te σ H fun x H1=>ts σ H1 fun o H2=>∃ a y z,x=.ref a∧SqT K H2 a [y,z]∧((o=some (-1)∧∀ p,H2 p=none→Q (.ref p) (upd H2 p (.tup [z,y])))∨(o=some 1∧Q (.ref a) H2))):tStep K te ts σ H Q:=h
section
variable {X:Cx} {K:PySem.W.Frag} {e st:Expr} {te:TE} {ts:TO} {p2 pos:Pos}
end
end L2
namespace L2
open PySem PySem.Spec PyProof.Rows
def FG (K:PySem.W.Frag) (nm:Str) (st:Stmt):Prop:=∃ f fd,PySem.W.nsIn K mainGlobals nm=some (some (.ref f))∧Fun K nm nm st f fd
def FM (K:PySem.W.Frag) (C:Addr) (m ql:Str) (st:Stmt):Prop:=∃ f fd,PySem.W.findIn K (.ref C) m=some (some (.ref f))∧PySem.W.isFn K (.ref f)=true∧Fun K m ql st f fd
def FC (K:PySem.W.Frag) (C:Addr) (m ql:Str) (st:Stmt):Prop:=∃ f fd,PySem.W.findCls K (.ref C) (.type "type") m=some (.val (.ref f))∧Fun K m ql st f fd
structure XQ (K:PySem.W.Frag) (C:Addr):Prop where
 xa:PySem.W.findIn K (.ref C) "__getattribute__"=some (some (.builtin "BaseException.__getattribute__"))
 xb:PySem.W.findIn K (.ref C) "__getattr__"=some none
 xd:PySem.W.mroIn K C (.type "BaseException")=some true
 xe:PySem.W.mroIn K C (.type "object")=some true
 xf:PySem.W.hasDictIn K C=true
 xg:PySem.W.findIn K (.ref C) "__class__"=some (some (.builtin "object.__class__"))
 xh:PySem.W.findIn K (.ref C) "__setattr__"=some (some (.builtin "object.__setattr__"))
 p:PySem.W.keepIn K (.ref C)=true
section
variable {P:Program} {w:World} {K:PySem.W.Frag} {mg:Str→Option Value} {base h:Heap} {CX:CXT} {k:Nat} {sp:Sp} {st:Stmt} {f:Addr} {fd:FuncData} {ps:List Str} {nm m ql x:Str} {C:Addr}
abbrev BA (x ql:Str) (st:Stmt) (ps:List Str):Prop:=∀ (kV doc pm:Value) (an:Option Addr) (cdv ct:Value) (us:List Value),us.length=ps.length→bindArgs (PySem.W.fnOf x ql (qm st) (qj st) (qe st) .none kV doc pm an cdv ct) ⟨us,[]⟩=pure (ps.zip us)
theorem fg_mk (X:K.In h) (G:h.Ns mainGlobals mg) (a:PySem.W.nsIn K mainGlobals nm=some (some (.ref f))) (F:Fun K nm nm st f fd) (o:FnOk P w K mg base CX k f fd ps sp)
  (hb:BA nm nm st ps:=by first | (exact fun _ _ _ _ _ _ us hl=>(match us,hl with | [_],_=>rfl)) | (exact fun _ _ _ _ _ _ us hl=>(match us,hl with | [_,_],_=>rfl)) | (exact fun _ _ _ _ _ _ us hl=>(match us,hl with | [_,_,_],_=>rfl)) | (exact fun _ _ _ _ _ _ us hl=>(match us,hl with | [_,_,_,_],_=>rfl))) :
  DefOk P w K mg base CX k nm ps sp:=⟨_,_,o,PySem.W.mg_of X G a,F.kp,F.binds hb⟩
theorem fm_mk (wcl:Cls K C) (a:PySem.W.findIn K (.ref C) m=some (some (.ref f))) (n:PySem.W.isFn K (.ref f)=true) (F:Fun K m ql st f fd) (o:FnOk P w K mg base CX k f fd ps sp)
  (hb:BA m ql st ps:=by first | (exact fun _ _ _ _ _ _ us hl=>(match us,hl with | [_],_=>rfl)) | (exact fun _ _ _ _ _ _ us hl=>(match us,hl with | [_,_],_=>rfl)) | (exact fun _ _ _ _ _ _ us hl=>(match us,hl with | [_,_,_],_=>rfl)) | (exact fun _ _ _ _ _ _ us hl=>(match us,hl with | [_,_,_,_],_=>rfl))) :
  MethOk P w K mg base CX k C m ps sp:=⟨⟨_,_,o,⟨a,n,F.kp⟩,F.binds hb⟩,wcl⟩
theorem fw_mk (X:K.In h) (G:h.Ns mainGlobals mg) (c:PySem.W.nsIn K mainGlobals x=some (some (.ref C))) (w5:PySem.W.makesIn K C=true) (w6:PySem.W.keepIn K (.ref C)=true) (a:PySem.W.findIn K (.ref C) "__init__"=some (some (.ref f))) (n:PySem.W.isFn K (.ref f)=true) (F:Fun K "__init__" ql st f fd) (o:FnOk P w K mg base CX k f fd ps sp)
  (hb:BA "__init__" ql st ps:=by first | (exact fun _ _ _ _ _ _ us hl=>(match us,hl with | [_],_=>rfl)) | (exact fun _ _ _ _ _ _ us hl=>(match us,hl with | [_,_],_=>rfl)) | (exact fun _ _ _ _ _ _ us hl=>(match us,hl with | [_,_,_],_=>rfl))) :
  MakeOk P w K mg base CX k C x ps sp:=⟨⟨_,_,o,⟨w5,a,n,w6⟩,F.binds hb⟩,PySem.W.mg_of X G c⟩
theorem qcx (X:K.In h) (G:h.Ns mainGlobals mg) (c:PySem.W.nsIn K mainGlobals x=some (some (.ref C))) (Y:XAt K C) (q:XQ K C) (a:PySem.W.findIn K (.ref C) "__init__"=some (some (.ref f))) (n:PySem.W.isFn K (.ref f)=true) (F:Fun K "__init__" ql st f fd) (o:FnOk P w K mg base CX0 k f fd ps sp)
  (hb:BA "__init__" ql st ps:=by first | (exact fun _ _ _ _ _ _ us hl=>(match us,hl with | [_],_=>rfl)) | (exact fun _ _ _ _ _ _ us hl=>(match us,hl with | [_,_],_=>rfl))) :
  XMakeOk P w K mg base k C x ps sp:=⟨⟨_,_,o,⟨Y,a,n,q.p⟩,F.binds hb⟩,PySem.W.mg_of X G c⟩
theorem fc_mk (X:K.In h) (G:h.Ns mainGlobals mg) (c:PySem.W.nsIn K mainGlobals x=some (some (.ref C))) (r1:PySem.W.readsIn K C (.type "type")=true) (r2:PySem.W.findCls K (.ref C) (.type "type") m=some (.val (.ref f))) (r3:PySem.W.specialIn K (.ref C) "__getattribute__"=some (some (.builtin "type.__getattribute__"))) (F:Fun K m ql st f fd) (o:FnOk P w K mg base CX k f fd ps sp)
  (hb:BA m ql st ps:=by (exact fun _ _ _ _ _ _ us hl=>(match us,hl with | [_,_],_=>rfl))) :
  CMethOk P w K mg base CX k C x m ps sp:=⟨⟨_,_,o,⟨r1,r2,r3,F.kp⟩,F.binds hb⟩,PySem.W.mg_of X G c⟩
theorem qb1 {bm:List Value} (x:XL K C bm) (hb:qbB bm=true) (q:XQ K C) (w16:PySem.W.specialIn K (.builtin "object.__class__") "__get__"=some (some (.builtin "getset_descriptor.__get__"))) (w17:PySem.W.takesIn K (.builtin "object.__class__")=some true):XAt K C:=x.xat hb q.xa q.xb q.xd q.xe q.xf q.xg w16 w17 q.xh
end
end L2
namespace HT
open PySem PySem.Spec PyProof.Rows
section
variable {prog:Program} {w:World} {A:Around} {E:Value→Shared→Prop} {s:Shared}
end
end HT
namespace L2
open PySem PySem.Spec PyProof.Rows
section
variable {X:Cx} {K:PySem.W.Frag} {pos p:Pos} {x:Str}
end
end L2
namespace L2
open PySem PySem.Spec PyProof.Rows
section
variable {X:Cx} {K:PySem.W.Frag} {e lo st:Expr} {te:TE} {tl ts:TO} {p2 pos:Pos}
def qgw (K:PySem.W.Frag) (te:TE):TI:=fun σ H R=>te σ H fun v H1=>∃ a xs,v=.ref a∧SqL K H1 a xs∧R (Itl K a) H1
theorem qfx {K:PySem.W.Frag} {te:TE} {σ:St} {H:Hp} {R:It→Hp→Prop} (h:te σ H fun v H1=>∃ a xs,v=.ref a∧SqL K H1 a xs∧R (Itl K a) H1):qgw K te σ H R:=h
theorem qeF {tg:Expr} (hK:X.K=K) (he:PE X e te):PI X tg e (qgw K te):=by
 subst hK
 intro pins s σ H R I h
 refine thn (he pins s σ H _ I h) fun v s1 ⟨y,H1,I1,r1,a,xs,ey,hq,q⟩=>?_
 subst ey
 cases r1
 have fp:∀ b∈[s1.heap.objs.size],qco X pins H1 b:=fun b hb=>by
  have e:b=s1.heap.objs.size:=by simpa using hb
  subst e
  exact I1.fpOk (Nat.le_refl _) (I1.hok.fresh (Nat.le_refl _))
 obtain ⟨its,rv,p,hz⟩:=I1.list hq
 exact wpAny_pyIter_list p.isList ⟨s1.heap.objs.size,[s1.heap.objs.size],_,_,H1,rfl,I1.kept (t':=s1.toks) fun b o e=>Heap.get?_push_of_some _ e,qbF a _,⟨_,Heap.get?_push_size _ rfl,rfl,rfl⟩,fp,q⟩
end
end L2
namespace L2
open PySem PySem.Spec PyProof.Rows
theorem qc3:∀ {xs:List V} {us:List Value},Vals xs us→Vals xs.reverse us.reverse
 | _,_,.nil=>.nil
 | _,_,.cons r t=>by
  rw [List.reverse_cons,List.reverse_cons]
  exact (qc3 t).append (.cons r .nil)
section
variable {X:Cx} {K:PySem.W.Frag} {e st:Expr} {te:TE} {ts:TO} {p2 pos:Pos}
end
end L2
namespace L2
open PySem PySem.Spec PyProof.Rows
section
variable {X:Cx} {a:Expr} {ta:TA} {p p2 pos pos2:Pos}
end
end L2
namespace L2
structure Sb (V:Nat→Prop):Prop where
 z:V 0
 a:∀ x y,V x→V y→V (x ^^^ y)
def jn (V:Nat→Prop) (x:Nat):Nat→Prop:=fun y=>V y∨V (y ^^^ x)
def Spn:List Nat→Nat→Prop
 | []=>fun y=>y=0
 | a::L=>jn (Spn L) a
open Classical in
def Bnd (b n v:Nat):Prop:=∀ i,v.testBit i=true→b≤i∧i < b + n
open Classical in
def swp:Nat→Nat→List Nat→Nat
 | 0,_,_=>0
 | n + 1,b,L=>match L.filter (fun v=>v.testBit b) with
  | []=>swp n (b + 1) L
  | p::t=>1 + swp n (b + 1) (L.filter (fun v=>!v.testBit b)++t.map fun v=>v ^^^ p)
open Classical in
def rk (L:List Nat):Nat:=swp 30 0 L
open Classical in
structure Ech (os:List (Nat×Nat)):Prop where
 nz:∀ o∈os,o.1≠0
 pw:os.Pairwise fun a b=>b.1.testBit a.1.log2=false
def csm:List Nat→Nat→Nat→Nat
 | [],_,_=>0
 | a::L,k,c=>(if c.testBit k then a else 0) ^^^ csm L (k + 1) c
structure Stp (L:List Nat) (n:Nat) (st:List (Nat×Nat)):Prop where
 ech:Ech st
 sum:∀ o∈st,csm L 0 o.2=o.1
 low:∀ o∈st,o.2 < 2 ^ n
 lt:∀ o∈st,o.1 < 2 ^ 30
 spn:∀ v,Spn (st.map (·.1)) v↔Spn (L.take n) v
 free:st.map (fun o=>o.2.log2)=(List.range n).filter fun i=>decide (rk (L.take i) < rk (L.take (i + 1)))
 len:st.length≤n
end L2
namespace L2
open PySem PySem.Spec PyProof.Rows
section
variable {X:Cx}
end
def Fl:V→Prop
 | .non=>True
 | .bl _=>True
 | .int i=>-999999999999≤i∧i≤999999999999
 | _=>False
def fD:V→PyData
 | .non=>.none
 | .bl b=>.bool b
 | .int i=>.int i
 | .str x=>.str x
 | _=>.none
def FlS (xs:List V):Prop:=xs.length≤1000∧∀ x∈xs,Fl x
def ShwT (H:Hp) (v:V) (t:Str):Prop:=match v with
 | .non=>t="None"
 | .bl b=>t=if b then Str.ofString "True" else Str.ofString "False"
 | .int i=>i.natAbs.log2 < 1920∧t=toString i
 | .str x=>(reprText x).length≤sizeLine∧t=reprText x
 | .ref p=>(∃ xs,H p=some (.lst xs)∧FlS xs∧t=(PyData.list (xs.map fD)).shown)∨∃ xs,H p=some (.tup xs)∧FlS xs∧t=(PyData.tuple (xs.map fD)).shown
 | _=>False
section
variable {X:Cx} {K:PySem.W.Frag}
end
section
variable {K:PySem.W.Frag} {a:Addr} {xs:List V} {g:TG} {tc:TT} {te:TE} {σ':St} {H1:Hp} {Q:V→Hp→Prop}
end
end L2
namespace L2
open PySem PySem.Spec PyProof.Rows
section
variable {K:PySem.W.Frag} {a b:Addr} {xs ys:List V} {g:TG} {tc:TT} {te:TE} {σ':St} {H1:Hp} {Q:V→Hp→Prop}
end
section
variable {X:Cx} {K:PySem.W.Frag}
end
end L2
namespace L2
open PySem PySem.Spec PyProof.Rows
theorem pick_one (its:List Value):slicePick its.toArray none none (some 1)=its.toArray:=by
 have e:slicePick its.toArray none none (some 1)=slicePick its.toArray none none none:=rfl
 rw [e,qac,HT.sIx_none,HT.sIx_none]
 simp
def qgx (K:PySem.W.Frag) (te:TE) (ts:TO):TE:=fun σ H Q=>te σ H fun x H1=>ts σ H1 fun o H2=>∃ a xs,x=.ref a∧SqL K H2 a xs∧((o=some (-1)∧∀ p,H2 p=none→Q (.ref p) (upd H2 p (.lst xs.reverse)))∨(o=some 1∧∀ p,H2 p=none→Q (.ref p) (upd H2 p (.lst xs))))
theorem vRv2 {K:PySem.W.Frag} {te:TE} {ts:TO} {σ:St} {H:Hp} {Q:VK} (h:te σ H fun x H1=>ts σ H1 fun o H2=>∃ a xs,x=.ref a∧SqL K H2 a xs∧((o=some (-1)∧∀ p,H2 p=none→Q (.ref p) (upd H2 p (.lst xs.reverse)))∨(o=some 1∧∀ p,H2 p=none→Q (.ref p) (upd H2 p (.lst xs))))):qgx K te ts σ H Q:=h
section
variable {X:Cx} {K:PySem.W.Frag} {e st:Expr} {te:TE} {ts:TO} {p2 pos:Pos}
theorem pe_rv2 (hK:X.K=K) (he:PE X e te) (hs:PO X (some st) ts):PE X (.Subscript e (.Slice none none (some st) p2) pos) (qgx K te ts):=by
 subst hK
 intro pins s σ H Q I h
 refine Subscript_ (thn (he pins s σ H _ I h) fun v s1 ⟨x,H1,I1,r1,q1⟩=>?_)
 refine wpAny_Slice ?_
 rw [evalPart_none]
 refine wpAny_pure ?_
 refine wpAny_pure ?_
 refine thn (hs pins s1 σ H1 _ I1 q1) fun vt s2 ⟨o,H2,I2,pt,a,xs,ex,hx,q⟩=>?_
 subst ex
 cases r1
 have I4:Inv X pins σ H2 { s2 with heap:=s2.heap.push { cls:=.type "slice",data:=.fields #[.none,.none,vt] } }:=I2.kept (t':=s2.toks) fun b ob q=>Heap.get?_push_of_some _ q
 obtain ⟨its,r,ht,hz⟩:=I4.list hx
 have hlen:=r.length
 show wpAny (model X.prog X.w) X.A (subscriptTail e (.Slice none none (some st) p2) (.ref a) (.ref s2.heap.objs.size)) (EP X pins σ Q) X.xe { s2 with heap:=s2.heap.push { cls:=.type "slice",data:=.fields #[.none,.none,vt] } }
 rcases q with ⟨eo,q⟩ | ⟨eo,q⟩
 ·subst eo
  refine tail_any (ops:=[.ref a,.ref s2.heap.objs.size]) ht.isList.typeIs slot_list_getitem.lookup (wpAny_getItem_list_slice ht.isList (Heap.IsSliceOf.new ..) .none .none pt (by decide) ?_ (by rw [List.size_toArray]<;>omega)) (by with_unfolding_all rfl)
  rw [PySem.W.krv_pick]
  refine ⟨.ref _,_,I4.laid (t':=s2.toks) (o:=.lst xs.reverse) (fun b ob q=>Heap.get?_push_of_some _ q) (Nat.le_refl _) ?_,rfl,q _ (I4.hok.fresh (Nat.le_refl _))⟩
  exact ⟨by rw [List.length_reverse];exact hz,_,0,qc3 r,Heap.get?_push_size _ rfl⟩
 ·subst eo
  refine tail_any (ops:=[.ref a,.ref s2.heap.objs.size]) ht.isList.typeIs slot_list_getitem.lookup (wpAny_getItem_list_slice ht.isList (Heap.IsSliceOf.new ..) .none .none pt (by decide) ?_ (by rw [List.size_toArray]<;>omega)) (by with_unfolding_all rfl)
  rw [pick_one]
  refine ⟨.ref _,_,I4.laid (t':=s2.toks) (o:=.lst xs) (fun b ob q=>Heap.get?_push_of_some _ q) (Nat.le_refl _) ?_,rfl,q _ (I4.hok.fresh (Nat.le_refl _))⟩
  exact ⟨hz,_,0,r,Heap.get?_push_size _ rfl⟩
end
end L2
namespace L2
open PySem PySem.Spec PyProof.Rows
mutual
inductive Dat (H:Hp):V→PyData→Prop
 | non:Dat H .non .none
 | bl (b:Bool):Dat H (.bl b) (.bool b)
 | int (i:Int):Dat H (.int i) (.int i)
 | str (x:Str):Dat H (.str x) (.str x)
 | lst {a:Addr} {xs:List V} {ds:List PyData}:H a=some (.lst xs)→DatS H xs ds→Dat H (.ref a) (.list ds)
 | tup {a:Addr} {xs:List V} {ds:List PyData}:H a=some (.tup xs)→DatS H xs ds→Dat H (.ref a) (.tuple ds)
 | dnil {a:Addr}:H a=some (.dK [])→Dat H (.ref a) (.dict [])
inductive DatS (H:Hp):List V→List PyData→Prop
 | nil:DatS H [] []
 | cons {v:V} {vs:List V} {d:PyData} {ds:List PyData}:Dat H v d→DatS H vs ds→DatS H (v::vs) (d::ds)
end
theorem Dat.same {H H':Hp} (s:Same H H') {v:V} {d:PyData} (h:Dat H v d):Dat H' v d:=
 Dat.rec (H:=H) (motive_1:=fun v d _=>Dat H' v d) (motive_2:=fun vs ds _=>DatS H' vs ds) .non .bl .int .str (fun e _ r=>.lst (s _ _ e) r) (fun e _ r=>.tup (s _ _ e) r) (fun e=>.dnil (s _ _ e)) .nil (fun _ _ a b=>.cons a b) h
theorem DatS.app {H:Hp}:∀ {xs ys:List V} {ds es:List PyData},DatS H xs ds→DatS H ys es→DatS H (xs++ys) (ds++es)
 | _,_,_,_,.nil,h=>h
 | _,_,_,_,.cons a b,h=>.cons a (b.app h)
theorem DatS.strs {H:Hp}:∀ (ks:List Str),DatS H (ks.map V.str) (ks.map PyData.str)
 | []=>.nil
 | k::ks=>.cons (.str k) (DatS.strs ks)
structure Shw (d:PyData) (n m:Nat):Prop where
 s:d.showable=true
 l:d.leavesShort 13=true
 b:d.bulk≤n
 p:d.depth≤m
structure ShwS (ds:List PyData) (n m:Nat):Prop where
 s:PyData.showableAll ds=true
 l:PyData.leavesShortAll 13 ds=true
 b:PyData.bulkAll ds≤n
 p:PyData.depthAll ds≤m
theorem ShwS.nil {m:Nat}:ShwS [] 0 m:=⟨rfl,rfl,Nat.le_refl _,Nat.zero_le _⟩
theorem ShwS.cons {d:PyData} {ds:List PyData} {n n' m:Nat} (h:Shw d n m) (r:ShwS ds n' m):ShwS (d::ds) (n + 1 + n') m:=
  ⟨by show (PyData.showable d&&PyData.showableAll ds)=true;rw [h.s,r.s];rfl,by show (PyData.leavesShort 13 d&&PyData.leavesShortAll 13 ds)=true;rw [h.l,r.l];rfl,
   by have:=h.b;have:=r.b;show PyData.bulk d + 1 + PyData.bulkAll ds≤_;omega,
   by have:=h.p;have:=r.p;simp only [PyData.depthAll];omega⟩
theorem ShwS.mono {ds:List PyData} {n n' m m':Nat} (h:ShwS ds n m) (hn:n≤n') (hm:m≤m'):ShwS ds n' m':=⟨h.s,h.l,Nat.le_trans h.b hn,Nat.le_trans h.p hm⟩
theorem Shw.mono {d:PyData} {n n' m m':Nat} (h:Shw d n m) (hn:n≤n') (hm:m≤m'):Shw d n' m':=⟨h.s,h.l,Nat.le_trans h.b hn,Nat.le_trans h.p hm⟩
theorem ShwS.list {ds:List PyData} {n m:Nat} (h:ShwS ds n m):Shw (.list ds) n (m + 1):=
 ⟨by simpa only [PyData.showable] using h.s,by simpa only [PyData.leavesShort] using h.l,by simpa only [PyData.bulk] using h.b,by have:=h.p;simp only [PyData.depth];omega⟩
theorem ShwS.tuple {ds:List PyData} {n m:Nat} (h:ShwS ds n m):Shw (.tuple ds) n (m + 1):=
 ⟨by simpa only [PyData.showable] using h.s,by simpa only [PyData.leavesShort] using h.l,by simpa only [PyData.bulk] using h.b,by have:=h.p;simp only [PyData.depth];omega⟩
theorem ShwS.app {m:Nat}:∀ {ds es:List PyData} {n n':Nat},ShwS ds n m→ShwS es n' m→ShwS (ds++es) (n + n') m
 | [],es,n,n',_,h=>h.mono (by omega) (Nat.le_refl _)
 | d::ds,es,n,n',h,h'=>by
  have hs:PyData.showable d=true∧PyData.showableAll ds=true:=by simpa [PyData.showableAll] using h.s
  have hl:PyData.leavesShort 13 d=true∧PyData.leavesShortAll 13 ds=true:=by simpa [PyData.leavesShortAll] using h.l
  have hb:PyData.bulk d + 1 + PyData.bulkAll ds≤n:=h.b
  have hp:=h.p
  simp only [PyData.depthAll] at hp
  have a:Shw d (PyData.bulk d) m:=⟨hs.1,hl.1,Nat.le_refl _,by omega⟩
  have b:ShwS ds (PyData.bulkAll ds) m:=⟨hs.2,hl.2,Nat.le_refl _,by omega⟩
  exact (ShwS.cons a (b.app h')).mono (by omega) (Nat.le_refl _)
theorem Shw.non {m:Nat}:Shw .none 0 m:=⟨rfl,rfl,Nat.le_refl _,Nat.zero_le _⟩
theorem Shw.bl {b:Bool} {m:Nat}:Shw (.bool b) 0 m:=⟨rfl,rfl,Nat.le_refl _,Nat.zero_le _⟩
theorem Shw.int {i:Int} {m:Nat} (h1:-999999999999≤i) (h2:i≤999999999999):Shw (.int i) 0 m:=
 ⟨decide_eq_true (log2_small (Nat.lt_of_lt_of_le (show i.natAbs < 2 ^ 40 by omega) (Nat.pow_le_pow_right (by decide) (by decide)))),decide_eq_true (PyData.shown_int_le2 h1 h2),Nat.le_refl _,Nat.zero_le _⟩
theorem Shw.str {x:Str} {m:Nat} (h:∀ c∈x.cps.toList,c < 16 ^ 8):Shw (.str x) x.length m:=
 ⟨rfl,by simpa only [PyData.leavesShort,List.all_eq_true,decide_eq_true_eq] using h,Nat.le_refl _,Nat.zero_le _⟩
theorem Shw.dnil {m:Nat}:Shw (.dict []) 0 (m + 1):=⟨rfl,rfl,Nat.le_refl _,by simp [PyData.depth,PyData.depthKv]⟩
section
variable {X:Cx} {K:PySem.W.Frag} {pins:List (Addr×Obj)} {σ:List (Option V)} {H:Hp} {s:Shared}
theorem Dat.reads (I:Inv X pins σ H s) (hm:H sysModules=none) {v:V} {d:PyData} (h:Dat H v d):∀ u,RelV v u→∃ as,Reads s.heap u d as∧sysModules∉as:=
 Dat.rec (H:=H) (motive_1:=fun v d _=>∀ u,RelV v u→∃ as,Reads s.heap u d as∧sysModules∉as) (motive_2:=fun vs ds _=>∀ us,Vals vs us→∃ as,ReadsAll s.heap us ds as∧sysModules∉as)
  (fun u r=>⟨[],by cases r;exact .none,nofun⟩) (fun b u r=>⟨[],by cases r;exact .bool b,nofun⟩) (fun i u r=>⟨[],by obtain ⟨t,rfl⟩:=r;exact .int i t,nofun⟩) (fun x u r=>⟨[],by obtain ⟨t,rfl⟩:=r;exact .str x t,nofun⟩)
  (fun {a xs ds} e _ ih u r=>by
   cases r
   obtain ⟨z,its,n,rv,e2⟩:=I.hok a _ e
   obtain ⟨as,ra,hn⟩:=ih its rv
   refine ⟨a::as,.list e2 rfl rfl (by rw [List.toList_toArray];exact ra),fun hh=>?_⟩
   rcases List.mem_cons.mp hh with z | z
   ·rw [z,e] at hm;cases hm
   ·exact hn z)
  (fun {a xs ds} e _ ih u r=>by
   cases r
   obtain ⟨its,rv,⟨o,e1,e2,n,e3⟩,_⟩:=I.tuple (SqT.of e)
   obtain ⟨as,ra,hn⟩:=ih its rv
   exact ⟨as,.tuple e1 e2 e3 (by rw [List.toList_toArray];exact ra),hn⟩)
  (fun {a} e u r=>by
   cases r
   obtain ⟨z,hd,vs,rel,o,es,ep,e1,e2,e3,e4,e5,e6⟩:=qfo I.hok e
   cases rel
   have he:es.toList=[]:=by cases hes:es.toList with | nil=>rfl | cons y ys=>rw [hes] at e5;cases e5
   refine ⟨a::[]++[],.dict e1 e2.1 e3 (by rw [he];exact .nil) (by rw [he];exact .nil),fun hh=>?_⟩
   rcases List.mem_cons.mp hh with z | z
   ·rw [← z] at hd;simp at hd
   ·cases z)
  (fun us r=>by cases r;exact ⟨[],.nil,nofun⟩)
  (fun _ _ ih1 ih2 us r=>by
   cases r with
   | cons r rr =>
    obtain ⟨as,ra,na⟩:=ih1 _ r
    obtain ⟨bs,rb,nb⟩:=ih2 _ rr
    exact ⟨as++bs,.cons ra rb,fun hh=>(List.mem_append.mp hh).elim na nb⟩) h
def rReprD:List V→Hp→VK→Prop:=fun xs H Q=>∃ v d,xs=[v]∧Dat H v d∧Shw d (2 ^ 20) 60∧Q (.str d.shown) H
theorem qdX (hK:X.K=K) (hu:X.A.units + 100 < cLine) (hg:X.A.guards=some []) (hs:∃ o,K.lookup sysModules=some o):zm X (.builtin "repr") rReprD:=by
 subst hK
 intro pins s σ H xs us Q I r h
 obtain ⟨v,d,rfl,hd,hw,q⟩:=h
 obtain ⟨u,rfl,ru⟩:=qaH r
 obtain ⟨o,ho⟩:=hs
 have hm:H sysModules=none:=(I.bs _ _ (I.mod.kin _ _ ho)).2
 have hsz:d.shown.length≤sizeLine:=PyData.shown_fits_bulk (B:=13) (by decide) (by decide) hw.l hw.b
 obtain ⟨as,ra,na⟩:=hd.reads I hm u ru
 have hp:=hw.p
 cases hd with
 | non=>cases ru;exact P.repr_of_none ⟨.str _,H,I.tok _,⟨_,rfl⟩,q⟩
 | bl b=>cases ru;exact P.repr_of_bool ⟨.str _,H,I.tok _,⟨_,rfl⟩,q⟩
 | int i=>obtain ⟨tk,rfl⟩:=ru;exact P.repr_of_int (of_decide_eq_true (by simpa only [PyData.showable] using hw.s)) ⟨.str _,H,I.tok _,⟨_,rfl⟩,q⟩
 | str x=>obtain ⟨tk,rfl⟩:=ru;exact P.repr_of_str (hsz:=hsz) ⟨.str _,H,I.tok _,⟨_,rfl⟩,q⟩
 | lst e _=>cases ru;exact repr_of_reads' ra hw.s (fun _=>na) hg (by omega) (fun _ _ z=>z) (fun h' u tk hk=>⟨.str _,H,I.kept (t':=tk) hk,⟨_,rfl⟩,q⟩) hsz
 | tup e _=>cases ru;exact repr_of_reads' ra hw.s (fun _=>na) hg (by omega) (fun _ _ z=>z) (fun h' u tk hk=>⟨.str _,H,I.kept (t':=tk) hk,⟨_,rfl⟩,q⟩) hsz
 | dnil e=>cases ru;exact repr_of_reads' ra hw.s (fun _=>na) hg (by omega) (fun _ _ z=>z) (fun h' u tk hk=>⟨.str _,H,I.kept (t':=tk) hk,⟨_,rfl⟩,q⟩) hsz
end
theorem qc4 {f:Str×NameKind→Str×NameKind} (hf:∀ y,(f y).1=y.1) (hk:∀ y,(f y).2=y.2∨(f y).2=.cell):∀ {ns:List (Str×NameKind)} {x:Str},(ns.lookup x=some .cell∨ns.lookup x=some .free)→((ns.map f).lookup x=some .cell∨(ns.map f).lookup x=some .free)
 | [],x,h=>by simp at h
 | y::r,x,h=>by
  have e:((y::r).map f)=((f y).1,(f y).2)::r.map f:=rfl
  have e':y::r=(y.1,y.2)::r:=rfl
  rw [e',List.lookup_cons] at h
  rw [e,List.lookup_cons,hf y]
  cases hb:x==y.1 with
  | false=>rw [hb] at h;exact qc4 hf hk h
  | true =>
   rw [hb] at h
   rcases hk y with z | z
   ·rw [z];exact h
   ·rw [z];exact .inl rfl
theorem compB_re {sc scope:Scope} {env:Env} (h:qbT sc scope=true):qbT (relabel sc env) scope=true:=by
 unfold qbT at h ⊢
 rw [Bool.and_eq_true] at h ⊢
 refine ⟨h.1,List.all_eq_true.mpr fun y hy=>?_⟩
 have:=List.all_eq_true.mp h.2 y hy
 cases hk:y.2 with
 | free =>
  rw [hk] at this
  simp only [Bool.and_eq_true,Bool.or_eq_true,beq_iff_eq] at this ⊢
  refine ⟨?_,this.2⟩
  exact qc4 (fun y=>by dsimp only;split<;>rfl) (fun y=>by dsimp only;split<;>simp) this.1
 | _=>rw [hk] at this;first | done | exact this | cases this
section
variable {X:Cx} {tg elt iter:Expr} {ifs:List Expr} {scope sc1:Scope} {pos:Pos} {N N1:List Str} {nl:Nat} {ixs:List Nat} {wi:TI} {g:TG} {tc:TT} {te:TE} {C1:Addr} {s1:Shared} {H1:Hp} {ex1:List Addr}
theorem pe_compIn (N:List Str) (nl:Nat) (ixs:List Nat) (hc:X.calm=true) (O':qbT sc1 scope=true) (hN:N.length=nl + ixs.length) (hcap':qfP nl ixs N N1 scope.names=true)
  (hi:PI (X.comp N1 sc1 C1 s1 H1 ex1) tg iter wi) (hg:∀ C s0 H0 ex,PG ((X.comp N1 sc1 C1 s1 H1 ex1).comp N scope C s0 H0 ex) tg g) (gk:qdO nl g) (ht:∀ C s0 H0 ex,qfa ((X.comp N1 sc1 C1 s1 H1 ex1).comp N scope C s0 H0 ex) ifs tc) (he:∀ C s0 H0 ex,PE ((X.comp N1 sc1 C1 s1 H1 ex1).comp N scope C s0 H0 ex) elt te)
  (hs:∀ x,foldedSetIterable iter (X.comp N1 sc1 C1 s1 H1 ex1).env x=pure x:=by intro _;rfl):PE (X.comp N1 sc1 C1 s1 H1 ex1) (.ListComp elt [⟨tg,iter,ifs,0⟩] scope pos) (qej wi g tc te nl ixs):=
 j2 (sc:=relabel sc1 X.env) (XN:=N1) N nl ixs rfl rfl hc (compB_re O') hN hcap' hi hg gk ht he hs
end
end L2
namespace K41
open PySem L2 PyProof.Rows
theorem zX {k:Nat} {A:Around} (hr:Room k A):A.units + 100 < cLine:=by have:=hr.un;omega
theorem hmR {k j:Nat} {A:Around} (hr:Room k A) (h:j≤k:=by decide):Room j A:=hr.mono h
def top (i:Nat):Stmt:=PySem.Challenge.pw_onceroad_k41_pieces_beside_bars.main.body.getD i (.Pass ⟨0,0,0,0⟩)
abbrev qL:Stmt:=ji (top 2) 0
theorem sc_OnceError_init:FnScope ["self", "text"] ["self", "text"] (qe qL):=⟨rfl,rfl,rfl,by decide +kernel,rfl,by decide +kernel,by decide +kernel⟩
abbrev jl:Stmt:=ji (top 3) 0
theorem sc_NoName_init:FnScope ["self", "found"] ["self", "found"] (qe jl):=⟨rfl,rfl,rfl,by decide +kernel,rfl,by decide +kernel,by decide +kernel⟩
abbrev ju:Stmt:=ji (top 4) 0
theorem sc_Twice_init:FnScope ["self", "name"] ["self", "name"] (qe ju):=⟨rfl,rfl,rfl,by decide +kernel,rfl,by decide +kernel,by decide +kernel⟩
abbrev q9:Stmt:=ji (top 5) 0
theorem sc_NoPlace_init:FnScope ["self", "found"] ["self", "found"] (qe q9):=⟨rfl,rfl,rfl,by decide +kernel,rfl,by decide +kernel,by decide +kernel⟩
abbrev jv:Stmt:=ji (top 6) 0
theorem sc_NoTie_init:FnScope ["self", "found"] ["self", "found"] (qe jv):=⟨rfl,rfl,rfl,by decide +kernel,rfl,by decide +kernel,by decide +kernel⟩
abbrev jc:Stmt:=ji (top 7) 0
theorem sc_TooMany_init:FnScope ["self", "many"] ["self", "many"] (qe jc):=⟨rfl,rfl,rfl,by decide +kernel,rfl,by decide +kernel,by decide +kernel⟩
abbrev jd:Stmt:=ji (top 8) 0
theorem sc_NoPairs_init:FnScope ["self", "found"] ["self", "found"] (qe jd):=⟨rfl,rfl,rfl,by decide +kernel,rfl,by decide +kernel,by decide +kernel⟩
abbrev jw:Stmt:=ji (top 9) 0
theorem sc_NoBar_init:FnScope ["self", "found"] ["self", "found"] (qe jw):=⟨rfl,rfl,rfl,by decide +kernel,rfl,by decide +kernel,by decide +kernel⟩
local macro_rules | `(tactic| walk_at "vc1")=>`(tactic| first
 | with_reducible refine vSeq ?_ | with_reducible refine vAsg ?_ | with_reducible refine vAsgS ?_ | with_reducible refine vIfS ?_ | with_reducible refine vRet ?_ | with_reducible refine vNext ?_ | with_reducible refine vC ?_
 | ((with_reducible refine' vVar ?hv ?_);(case hv=>rfl)) | with_reducible refine vOp ?_ | with_reducible refine vChain ?_ | with_reducible refine vNil ?_ | with_reducible refine vCons ?_ | with_reducible refine vCB ?_ | with_reducible refine vCall ?_
 | with_reducible refine vLst ?_ | with_reducible refine vTup ?_ | with_reducible refine vTest ?_ | with_reducible refine vB ?_ | with_reducible refine vNot ?_ | with_reducible refine vAnd ?_ | with_reducible refine vOr ?_
 | with_reducible refine vAndV ?_ | with_reducible refine vOrV ?_ | with_reducible refine vNotV ?_ | with_reducible refine vYes ?_ | with_reducible refine vLeI ?_ | with_reducible refine vLeS ?_ | with_reducible refine vIsB ?_ | with_reducible refine vAddI ?_ | with_reducible refine vSl ?_ | with_reducible refine vNoPart ?_ | with_reducible refine vPart ?_ | with_reducible refine vExI ?_ | with_reducible refine vBM ?_ | with_reducible refine vBM0 ?_ | with_reducible refine vComp ?_ | with_reducible refine vFor ?_ | with_reducible refine vRng1 ?_ | with_reducible refine vAny ?_ | with_reducible refine vGN ?_ | with_reducible refine vI0 ?_ | with_reducible refine vEqI ?_ | with_reducible refine vEqB ?_ | with_reducible refine vEx ?_ | with_reducible refine vDrop ?_ | with_reducible refine vRetN ?_ | with_reducible refine vFldU ?_ | with_reducible refine vSFldU ?_ | with_reducible refine vXMake ?_ | with_reducible refine vMake ?_ | with_reducible refine vMeth ?_ | with_reducible refine vVinit ?_ | with_reducible refine vCallS ?_ | with_reducible refine vRaise ?_ | with_reducible refine vMethS ?_ | with_reducible refine vMakeS ?_ | with_reducible refine vUn ?_ | with_reducible refine vIf ?_ | with_reducible refine vRev ?_ | with_reducible refine vEnum ?_ | with_reducible refine vDGet2 ?_ | with_reducible refine vStep ?_)
local macro_rules | `(tactic| walk_at "vc")=>`(tactic| repeat walk_at "vc1")
def qaE (i:Nat):Str:=if i=1 then "name" else if i=4 then "many" else "found"
structure Txt (K:W.Frag) (mg:Str→Option Value) (cc:Nat→Addr) (cw:Addr):Prop where
 b_len:mg "len"=none
 b_int:mg "int"=none
 b_enumerate:mg "enumerate"=none
 b_all:mg "all"=none
 b_max:mg "max"=none
 b_min:mg "min"=none
 b_isinstance:mg "isinstance"=none
 b_bool:mg "bool"=none
 b_str:mg "str"=none
 b_range:mg "range"=none
 b_list:mg "list"=none
 b_tuple:mg "tuple"=none
 b_ValueError:mg "ValueError"=none
 g_LONGEST_NAME:∃ tk,mg "LONGEST_NAME"=some (.int 6 tk)
 g_MOST_PLACES:∃ tk,mg "MOST_PLACES"=some (.int 14 tk)
 g_MOST_TIES:∃ tk,mg "MOST_TIES"=some (.int 30 tk)
 m_NoName:mg "NoName"=some (.ref (cc 0))
 m_Twice:mg "Twice"=some (.ref (cc 1))
 m_NoPlace:mg "NoPlace"=some (.ref (cc 2))
 m_NoTie:mg "NoTie"=some (.ref (cc 3))
 m_TooMany:mg "TooMany"=some (.ref (cc 4))
 m_NoPairs:mg "NoPairs"=some (.ref (cc 5))
 m_NoBar:mg "NoBar"=some (.ref (cc 6))
 m_OnceError:mg "OnceError"=some (.ref (cc 7))
 vinit:VInit K
 xat:∀ i,i < 7 + 1→XAt K (cc i)
 na:∀ i,i < 7→NoAttr K (cc i) (qaE i)
 kit:∀ i j,i < 7→j < 7→W.kitOne K (.ref (cc i)) (.ref (cc j))=some (decide (i=j))
 kitV:∀ i,i < 7 + 1→W.kitOne K (.ref (cc i)) (.type "ValueError")=some true
 mroO:∀ i,i < 7→W.mroIn K (cc i) (.ref (cc 7))=some true
 wcl:Cls K cw
 wn:NoAttr K cw "numbers"
 wo:NoAttr K cw "order"
 wr:NoAttr K cw "near"
 m_Web:mg "Web"=some (.ref cw)
 b_sum:mg "sum"=none
 b_repr:mg "repr"=none
 smod:∃ o,K.lookup sysModules=some o
def qak (K:W.Frag):Sp:=fun vs H Q _=>∃ (e C:Addr) (y:V),vs=[.ref e,y]∧H e=some (XN e C none)∧XAt K C∧Q .non H
def spX (C:Addr) (fl:Str):Sp:=fun vs H Q _=>∃ (e:Addr) (v:V),vs=[.ref e,v]∧H e=some (XN e C none)∧∀ dx,H dx=none→Q .non (upd (upd H dx (.xd [(fl,v)])) e (XN e C (some dx)))
section
variable {P:Program} {w:World} {K:W.Frag} {mg:Str→Option Value} {base:Heap} {cc:Nat→Addr} {cw:Addr}
theorem ok_once {f:Addr} {fd:FuncData} (F:Fun K "__init__" "OnceError.__init__" qL f fd) (T:Txt K mg cc cw):FnOk P w K mg base CX0 1 f fd ["self", "text"] (qak K):=by
 refine F.ok sc_OnceError_init (fun vs H Q E h=>?_) fun cdv A outer s H vs Q E hr h=>?_
 ·obtain ⟨e,C,y,rfl,_⟩:=h;rfl
 ·obtain ⟨e,C,y,rfl,he,c,q⟩:=h
  refine ⟨_,(qf (qR (k_vinit (K:=K) rfl T.vinit rfl T.b_ValueError zE (qa (pv 0) (qa (pv 1) qc))))),?_⟩
  walk_at "vc"
  exact ⟨e,C,y,rfl,he,c,q⟩
theorem ok_NoName {f:Addr} {fd:FuncData} (F:Fun K "__init__" "NoName.__init__" jl f fd) (T:Txt K mg cc cw) (D_OnceError_init:CMethOk P w K mg base CX0 1 (cc 7) "OnceError" "__init__" ["self", "text"] (qak K)) :
  FnOk P w K mg base CX0 2 f fd ["self", "found"] (spX (cc 0) (qaE 0)):=by
 refine F.ok sc_NoName_init (fun vs H Q E h=>?_) fun cdv A outer s H vs Q E hr h=>?_
 ·obtain ⟨e,v,rfl,_⟩:=h;rfl
 ·obtain ⟨e,v,rfl,he,q⟩:=h
  refine ⟨_,(qd (qR (zq D_OnceError_init (hmR hr) (qa (pv 0) (qa jJ qc))))
 (qf (zf (K:=K) rfl (pv 0) (pv 1) rfl))),?_⟩
  walk_at "vc"
  refine ⟨e,_,_,rfl,he,T.xat 0 (by decide),?_⟩
  walk_at "vc"
  exact .inr ⟨e,_,rfl,he,T.xat 0 (by decide),T.na 0 (by decide),q⟩
theorem ok_Twice {f:Addr} {fd:FuncData} (F:Fun K "__init__" "Twice.__init__" ju f fd) (T:Txt K mg cc cw) (D_OnceError_init:CMethOk P w K mg base CX0 1 (cc 7) "OnceError" "__init__" ["self", "text"] (qak K)) :
  FnOk P w K mg base CX0 2 f fd ["self", "name"] (spX (cc 1) (qaE 1)):=by
 refine F.ok sc_Twice_init (fun vs H Q E h=>?_) fun cdv A outer s H vs Q E hr h=>?_
 ·obtain ⟨e,v,rfl,_⟩:=h;rfl
 ·obtain ⟨e,v,rfl,he,q⟩:=h
  refine ⟨_,(qd (qR (zq D_OnceError_init (hmR hr) (qa (pv 0) (qa jJ qc))))
 (qf (zf (K:=K) rfl (pv 0) (pv 1) rfl))),?_⟩
  walk_at "vc"
  refine ⟨e,_,_,rfl,he,T.xat 1 (by decide),?_⟩
  walk_at "vc"
  exact .inr ⟨e,_,rfl,he,T.xat 1 (by decide),T.na 1 (by decide),q⟩
theorem ok_NoPlace {f:Addr} {fd:FuncData} (F:Fun K "__init__" "NoPlace.__init__" q9 f fd) (T:Txt K mg cc cw) (D_OnceError_init:CMethOk P w K mg base CX0 1 (cc 7) "OnceError" "__init__" ["self", "text"] (qak K)) :
  FnOk P w K mg base CX0 2 f fd ["self", "found"] (spX (cc 2) (qaE 2)):=by
 refine F.ok sc_NoPlace_init (fun vs H Q E h=>?_) fun cdv A outer s H vs Q E hr h=>?_
 ·obtain ⟨e,v,rfl,_⟩:=h;rfl
 ·obtain ⟨e,v,rfl,he,q⟩:=h
  refine ⟨_,(qd (qR (zq D_OnceError_init (hmR hr) (qa (pv 0) (qa jJ qc))))
 (qf (zf (K:=K) rfl (pv 0) (pv 1) rfl))),?_⟩
  walk_at "vc"
  refine ⟨e,_,_,rfl,he,T.xat 2 (by decide),?_⟩
  walk_at "vc"
  exact .inr ⟨e,_,rfl,he,T.xat 2 (by decide),T.na 2 (by decide),q⟩
theorem ok_NoTie {f:Addr} {fd:FuncData} (F:Fun K "__init__" "NoTie.__init__" jv f fd) (T:Txt K mg cc cw) (D_OnceError_init:CMethOk P w K mg base CX0 1 (cc 7) "OnceError" "__init__" ["self", "text"] (qak K)) :
  FnOk P w K mg base CX0 2 f fd ["self", "found"] (spX (cc 3) (qaE 3)):=by
 refine F.ok sc_NoTie_init (fun vs H Q E h=>?_) fun cdv A outer s H vs Q E hr h=>?_
 ·obtain ⟨e,v,rfl,_⟩:=h;rfl
 ·obtain ⟨e,v,rfl,he,q⟩:=h
  refine ⟨_,(qd (qR (zq D_OnceError_init (hmR hr) (qa (pv 0) (qa jJ qc))))
 (qf (zf (K:=K) rfl (pv 0) (pv 1) rfl))),?_⟩
  walk_at "vc"
  refine ⟨e,_,_,rfl,he,T.xat 3 (by decide),?_⟩
  walk_at "vc"
  exact .inr ⟨e,_,rfl,he,T.xat 3 (by decide),T.na 3 (by decide),q⟩
theorem ok_TooMany {f:Addr} {fd:FuncData} (F:Fun K "__init__" "TooMany.__init__" jc f fd) (T:Txt K mg cc cw) (D_OnceError_init:CMethOk P w K mg base CX0 1 (cc 7) "OnceError" "__init__" ["self", "text"] (qak K)) :
  FnOk P w K mg base CX0 2 f fd ["self", "many"] (spX (cc 4) (qaE 4)):=by
 refine F.ok sc_TooMany_init (fun vs H Q E h=>?_) fun cdv A outer s H vs Q E hr h=>?_
 ·obtain ⟨e,v,rfl,_⟩:=h;rfl
 ·obtain ⟨e,v,rfl,he,q⟩:=h
  refine ⟨_,(qd (qR (zq D_OnceError_init (hmR hr) (qa (pv 0) (qa jJ qc))))
 (qf (zf (K:=K) rfl (pv 0) (pv 1) rfl))),?_⟩
  walk_at "vc"
  refine ⟨e,_,_,rfl,he,T.xat 4 (by decide),?_⟩
  walk_at "vc"
  exact .inr ⟨e,_,rfl,he,T.xat 4 (by decide),T.na 4 (by decide),q⟩
theorem ok_NoPairs {f:Addr} {fd:FuncData} (F:Fun K "__init__" "NoPairs.__init__" jd f fd) (T:Txt K mg cc cw) (D_OnceError_init:CMethOk P w K mg base CX0 1 (cc 7) "OnceError" "__init__" ["self", "text"] (qak K)) :
  FnOk P w K mg base CX0 2 f fd ["self", "found"] (spX (cc 5) (qaE 5)):=by
 refine F.ok sc_NoPairs_init (fun vs H Q E h=>?_) fun cdv A outer s H vs Q E hr h=>?_
 ·obtain ⟨e,v,rfl,_⟩:=h;rfl
 ·obtain ⟨e,v,rfl,he,q⟩:=h
  refine ⟨_,(qd (qR (zq D_OnceError_init (hmR hr) (qa (pv 0) (qa jJ qc))))
 (qf (zf (K:=K) rfl (pv 0) (pv 1) rfl))),?_⟩
  walk_at "vc"
  refine ⟨e,_,_,rfl,he,T.xat 5 (by decide),?_⟩
  walk_at "vc"
  exact .inr ⟨e,_,rfl,he,T.xat 5 (by decide),T.na 5 (by decide),q⟩
theorem ok_NoBar {f:Addr} {fd:FuncData} (F:Fun K "__init__" "NoBar.__init__" jw f fd) (T:Txt K mg cc cw) (D_OnceError_init:CMethOk P w K mg base CX0 1 (cc 7) "OnceError" "__init__" ["self", "text"] (qak K)) :
  FnOk P w K mg base CX0 2 f fd ["self", "found"] (spX (cc 6) (qaE 6)):=by
 refine F.ok sc_NoBar_init (fun vs H Q E h=>?_) fun cdv A outer s H vs Q E hr h=>?_
 ·obtain ⟨e,v,rfl,_⟩:=h;rfl
 ·obtain ⟨e,v,rfl,he,q⟩:=h
  refine ⟨_,(qd (qR (zq D_OnceError_init (hmR hr) (qa (pv 0) (qa jJ qc))))
 (qf (zf (K:=K) rfl (pv 0) (pv 1) rfl))),?_⟩
  walk_at "vc"
  refine ⟨e,_,_,rfl,he,T.xat 6 (by decide),?_⟩
  walk_at "vc"
  exact .inr ⟨e,_,rfl,he,T.xat 6 (by decide),T.na 6 (by decide),q⟩
end
abbrev j5:Stmt:=top 18
theorem sc_is_name:FnScope ["thing"] ["thing"] (qe j5):=⟨rfl,rfl,rfl,by decide +kernel,rfl,by decide +kernel,by decide +kernel⟩
abbrev zi:Stmt:=top 23
theorem sc_has_bit:FnScope ["bits", "number"] ["bits", "number"] (qe zi):=⟨rfl,rfl,rfl,by decide +kernel,rfl,by decide +kernel,by decide +kernel⟩
abbrev jW:Stmt:=top 24
theorem sc_is_place:FnScope ["numbers", "thing"] ["numbers", "thing"] (qe jW):=⟨rfl,rfl,rfl,by decide +kernel,rfl,by decide +kernel,by decide +kernel⟩
abbrev qM:Stmt:=top 25
theorem sc_are_two_places:FnScope ["numbers", "thing", "both"] ["numbers", "thing"] (qe qM):=⟨rfl,rfl,rfl,by decide +kernel,rfl,by decide +kernel,by decide +kernel⟩
theorem qY {l:Addr} {H H1:Hp} {o:HO} (a:L2.Same H H1) (hl:H1 l=none):L2.Same H (upd H1 l o):=fun c u e=>by
 have q:=a c u e
 rw [qi (qx q hl)]
 exact q
theorem qeY {l:Addr} {H H1:Hp} {o:HO} (a:L2.Same H H1) (hl:H l=none):L2.Same H (upd H1 l o):=fun c u e=>by
 rw [qi (qx e hl)]
 exact a c u e
def sg (c:Nat):Bool:=if (!decide (([c]:List Nat) < ("a":Str).cps.toList))=true then !decide (("z":Str).cps.toList < [c]) else false
def zy (x:Str):Bool:=if 1≤x.length∧x.length≤6 then x.cps.toList.all sg else false
def zF:V→Bool
 | .str x=>zy x
 | _=>false
def qG:V→Str
 | .str x=>x
 | _=>""
theorem jj {x:V} (h:zF x=true):x=.str (qG x)∧zy (qG x)=true∧(qG x).length≤6:=by
 cases x with
 | str y =>
  refine ⟨rfl,h,?_⟩
  have h':zy y=true:=h
  unfold zy at h'
  split at h'
  ·rename_i z;exact z.2
  ·cases h'
 | _=>cases h
inductive Th (p:Addr) (H:Hp):Nat→V→Prop
 | flat {n:Nat} {v:V} (f:zx v=true) (l:∀ s,v=.str s→s.length≤100000):Th p H n v
 | lst {n:Nat} {a:Addr} {xs:List V} (e:H a=some (.lst xs)) (ne:a≠p) (h:∀ x∈xs,Th p H n x) (l:xs.length≤1000):Th p H (n + 1) (.ref a)
 | tup {n:Nat} {a:Addr} {xs:List V} (e:H a=some (.tup xs)) (ne:a≠p) (h:∀ x∈xs,Th p H n x) (l:xs.length≤1000):Th p H (n + 1) (.ref a)
 | dct {n:Nat} {a:Addr} {kvs:List (Key×V)} (e:H a=some (.dK kvs)) (ne:a≠p):Th p H n (.ref a)
theorem Th.mono {p:Addr} {H:Hp}:∀ {n:Nat} {v:V},Th p H n v→Th p H (n + 1) v
 | _,_,.flat f l=>.flat f l
 | _,_,.lst e ne h l=>.lst e ne (fun x hx=>(h x hx).mono) l
 | _,_,.tup e ne h l=>.tup e ne (fun x hx=>(h x hx).mono) l
 | _,_,.dct e ne=>.dct e ne
theorem Th.keep {p:Addr} {H H':Hp} (k:∀ b o,b≠p→H b=some o→H' b=some o):∀ {n:Nat} {v:V},Th p H n v→Th p H' n v
 | _,_,.flat f l=>.flat f l
 | _,_,.lst e ne h l=>.lst (k _ _ ne e) ne (fun x hx=>(h x hx).keep k) l
 | _,_,.tup e ne h l=>.tup (k _ _ ne e) ne (fun x hx=>(h x hx).keep k) l
 | _,_,.dct e ne=>.dct (k _ _ ne e) ne
theorem Th.same {p:Addr} {H H':Hp} {n:Nat} {v:V} (h:Th p H n v) (s:L2.Same H H'):Th p H' n v:=h.keep fun b o _ e=>s b o e
inductive Arg (p:Addr) (H:Hp):V→Option (List V)→Prop
 | lst {a:Addr} {xs:List V} (e:H a=some (.lst xs)) (ne:a≠p) (h:∀ x∈xs,Th p H 2 x) (l:xs.length≤1000):Arg p H (.ref a) (some xs)
 | tup {a:Addr} {xs:List V} (e:H a=some (.tup xs)) (ne:a≠p) (h:∀ x∈xs,Th p H 2 x) (l:xs.length≤1000):Arg p H (.ref a) (some xs)
 | flat {v:V} (f:zx v=true) (l:∀ s,v=.str s→s.length≤100000):Arg p H v none
 | dct {a:Addr} {kvs:List (Key×V)} (e:H a=some (.dK kvs)) (ne:a≠p):Arg p H (.ref a) none
theorem Arg.keep {p:Addr} {H H':Hp} (k:∀ b o,b≠p→H b=some o→H' b=some o) {v:V} {o:Option (List V)} (h:Arg p H v o):Arg p H' v o:=by
 cases h with
 | lst e ne h l=>exact .lst (k _ _ ne e) ne (fun x hx=>(h x hx).keep k) l
 | tup e ne h l=>exact .tup (k _ _ ne e) ne (fun x hx=>(h x hx).keep k) l
 | flat f l=>exact .flat f l
 | dct e ne=>exact .dct (k _ _ ne e) ne
theorem Arg.same {p:Addr} {H H':Hp} {v:V} {o:Option (List V)} (h:Arg p H v o) (s:L2.Same H H'):Arg p H' v o:=h.keep fun b o _ e=>s b o e
def isB:V→Bool
 | .bl _=>true
 | _=>false
theorem Th.ty {K:W.Frag} {p:Addr} {H:Hp} {n:Nat} {v:V} (h:Th p H n v):∃ t∈["NoneType", "bool", "int", "str", "list", "tuple", "dict"],TyOf K H v (.type t)∧(qdR t "str"=true→∃ x,v=.str x∧x.length≤100000)∧(qdR t "str"=false→zF v=false) ∧
  (qdR t "tuple"=true→∃ a xs,v=.ref a∧H a=some (.tup xs)∧xs.length≤1000∧∀ x∈xs,Th p H n x)∧(qdR t "tuple"=false→∀ a xs,v=.ref a→H a≠some (.tup xs))∧qdR t "bool"=isB v:=by
 have no:∀ {P:Prop} {a b:String},qdR a b=false→qdR a b=true→P:=fun h1 h2=>by rw [h1] at h2;cases h2
 have yes:∀ {P:Prop} {a b:String},qdR a b=true→qdR a b=false→P:=fun h1 h2=>by rw [h1] at h2;cases h2
 cases h with
 | flat f l =>
  cases v with
  | non=>exact ⟨_,by simp,.non,no (by decide),fun _=>rfl,no (by decide),fun _ _ _ e=>by (cases e),rfl⟩
  | bl x=>exact ⟨_,by simp,.bl x,no (by decide),fun _=>rfl,no (by decide),fun _ _ _ e=>by (cases e),rfl⟩
  | int x=>exact ⟨_,by simp,.int x,no (by decide),fun _=>rfl,no (by decide),fun _ _ _ e=>by (cases e),rfl⟩
  | str x=>exact ⟨_,by simp,.str x,fun _=>⟨x,rfl,l x rfl⟩,yes (by decide),no (by decide),fun _ _ _ e=>by (cases e),rfl⟩
  | _=>cases f
 | lst e ne h l=>exact ⟨_,by simp,.lst e,no (by decide),fun _=>rfl,no (by decide),fun _ _ _ z=>by (cases z;rw [e];intro y;cases y),rfl⟩
 | tup e ne h l=>exact ⟨_,by simp,.tup e,no (by decide),fun _=>rfl,fun _=>⟨_,_,rfl,e,l,fun x hx=>(h x hx).mono⟩,yes (by decide),rfl⟩
 | dct e ne=>exact ⟨_,by simp,.dK e,no (by decide),fun _=>rfl,no (by decide),fun _ _ _ z=>by (cases z;rw [e];intro y;cases y),rfl⟩
section
variable {P:Program} {w:World} {K:W.Frag} {mg:Str→Option Value} {base:Heap} {cc:Nat→Addr} {cw:Addr}
def qdY:Sp:=fun vs H Q _=>∃ (p:Addr) (n:Nat) (v:V),vs=[v]∧Th p H n v∧∀ H',L2.Same H H'→Q (.bl (zF v)) H'
theorem ok_name {f:Addr} {fd:FuncData} (F:Fun K "is_name" "is_name" j5 f fd) (T:Txt K mg cc cw):FnOk P w K mg base CX0 1 f fd ["thing"] qdY:=by
 refine F.ok sc_is_name (fun vs H Q E h=>?_) fun cdv A outer s H vs Q E hr h=>?_
 ·obtain ⟨p,n,v,rfl,_⟩:=h;rfl
 ·obtain ⟨p,n,v,rfl,hv,q⟩:=h
  refine ⟨_,(qd (jf (PW.pt (qcl (jK (jr (qk (qbl (K:=K) rfl) rfl T.b_isinstance boot_isinstance (qa (pv 0) (qa (jQ (v:=.ty "str") rfl T.b_str boot_str rfl) qc))))) (qbg (jK (pt_chain qfQ qfQ qg (qk (jT (K:=K) rfl) rfl T.b_len boot_len (qa (pv 0) qc)) (qbr rfl T.g_LONGEST_NAME)))))) (qf (qq zA)) qv)
 (qf (qq (qk (k_all (K:=K) rfl rfl) rfl T.b_all boot_all (qa (j2 (sc:=qe j5) (XN:=["thing"]) ["sign"] 1 [] rfl rfl rfl (by decide +kernel) rfl (by decide +kernel)
  (jo (K:=K) rfl (pv 0)) (fun _ _ _ _=>(qr (i:=0) (show (["sign"]:List Str).Nodup by decide +kernel) rfl (Or.inl rfl))) jg
  (fun _ _ _ _=>zp)
  (fun _ _ _ _=>(pe_chain qfQ qfQ jJ (pv 0) jJ))) qc))))),?_⟩
  obtain ⟨t,ht,ty,hs,hn,_,_,_⟩:=hv.ty (K:=K)
  walk_at "vc"
  refine qcw (.inl ty) rfl (qav K t ht "str" (by simp)) ?_
  walk_at "vc"
  refine jk (fun h=>?_) fun h=>?_
  ·walk_at "vc"
   have z:=q H (L2.Same.refl H)
   rw [hn (by simpa using h)] at z
   exact z
  ·obtain ⟨x,rfl,hx⟩:=hs (by simpa using h)
   walk_at "vc"
   refine vLenS (Nat.le_trans hx (by decide)) ?_
   walk_at "vc"
   have q1:=q
   simp only [zF,zy] at q1
   have hneg:¬ (1≤x.length∧x.length≤6)→∀ H',L2.Same H H'→Q (.bl false) H':=fun hc H' hs=>by
    have z:=q1 H' hs
    rw [if_neg hc] at z
    exact z
   refine jk (fun h1=>?_) fun h1=>?_
   ·walk_at "vc"
    refine jk (fun h2=>?_) fun h2=>?_
    ·walk_at "vc"
     refine hneg (fun h=>?_) H (L2.Same.refl H)
     simp only [Bool.not_eq_true',decide_eq_false_iff_not] at h2
     omega
    ·walk_at "vc"
     have hin:1≤x.length∧x.length≤6:=by
      have a1:=of_decide_eq_true h1
      simp only [Bool.not_eq_true',decide_eq_false_iff_not,Classical.not_not] at h2
      omega
     rw [if_pos hin] at q1
     refine comp_str (fun i ys H'=>H'=H∧ys=((x.cps.toList.take i).map sg).map V.bl) ⟨rfl,by simp⟩ (fun i c ys H' hc hp=>?_) fun ys H' hp=>?_
     ·obtain ⟨rfl,rfl⟩:=hp
      walk_at "vc"
      refine qcg ?_
      walk_at "vc"
      have hl:(List.map V.bl (List.map sg (List.take i x.cps.toList))).length < sizeLine:=by
       rw [List.length_map,List.length_map,List.length_take]
       exact qh (Nat.le_trans (Nat.min_le_right _ _) (by simpa [Str.length] using (show x.length≤1000 by omega)))
      have key:∀ b,b=sg c→(List.map V.bl (List.map sg (List.take i x.cps.toList)))++[V.bl b]=List.map V.bl (List.map sg (List.take (i + 1) x.cps.toList)):=by
       intro b hb
       have e':x.cps.toList[i]?=some c:=by simpa using hc
       rw [hb,List.take_add_one,e']
       simp
      refine jk (fun h3=>?_) fun h3=>?_
      ·walk_at "vc"
       exact ⟨hl,rfl,key _ (by unfold sg;rw [if_pos h3])⟩
      ·exact ⟨hl,rfl,key _ (by unfold sg;rw [if_neg h3])⟩
     ·obtain ⟨rfl,rfl⟩:=hp
      have ht:x.cps.toList.take x.cps.size=x.cps.toList:=by rw [← Array.length_toList,List.take_length]
      rw [ht]
      refine ⟨?_,fun l hl=>?_⟩
      ·rw [List.length_map,List.length_map]
       exact Nat.le_of_lt (qh (by simpa [Str.length] using (show x.length≤1000 by omega)))
      ·walk_at "vc"
       refine ⟨l,x.cps.toList.map sg,rfl,SqL.of qb,?_⟩
       have z:=q1 _ (qY (L2.Same.refl H') (o:=.lst ((x.cps.toList.map sg).map V.bl)) hl)
       rw [List.all_map]
       exact z
   ·walk_at "vc"
    exact hneg (fun h=>h1 (decide_eq_true (by omega))) H (L2.Same.refl H)
def qdZ:Sp:=fun vs H Q _=>∃ b n:Int,vs=[.int b,.int n]∧0≤n∧Q (.bl (decide (Builtin.bitAnd (b / 2 ^ n.toNat) 1=1))) H
theorem ok_bit {f:Addr} {fd:FuncData} (F:Fun K "has_bit" "has_bit" zi f fd):FnOk P w K mg base CX0 1 f fd ["bits", "number"] qdZ:=by
 refine F.ok sc_has_bit (fun vs H Q E h=>?_) fun cdv A outer s H vs Q E hr h=>?_
 ·obtain ⟨b,n,rfl,_⟩:=h;rfl
 ·obtain ⟨b,n,rfl,hn,q⟩:=h
  have hu:=zX hr
  refine ⟨_,(qf (qq (qaX (za (K:=K) rfl hu) (qp qaW (qp qcN (pv 0) (pv 1)) qg) qg (qB _)))),?_⟩
  walk_at "vc"
  refine vI hn ?_
  walk_at "vc"
  refine .inl (.inl (.inl ⟨rfl,rfl,?_⟩))
  exact q
def qal:List Str→Nat→List (Key×V)
 | [],_=>[]
 | s::r,i=>(.inr s,.int i)::qal r (i + 1)
theorem qb2 (y:Str):∀ (ss:List Str) (i:Nat),qal (ss++[y]) i=qal ss i++[(.inr y,.int (i + ss.length:Nat))]
 | [],i=>rfl
 | s::r,i=>by
  show (_::qal (r++[y]) (i + 1))=_::(qal r (i + 1)++_)
  rw [qb2 y r (i + 1)]
  have:i + 1 + r.length=i + (s::r).length:=by simp;omega
  rw [this]
theorem zr:∀ (ss:List Str) (i:Nat),(qal ss i).length=ss.length
 | [],_=>rfl
 | _::r,i=>congrArg (· + 1) (zr r (i + 1))
theorem qa7 {y:Str}:∀ {ss:List Str} {i:Nat},y∉ss→zL (qal ss i) (.inr y:Key)=none
 | [],_,_=>rfl
 | s::r,i,h=>by
  have h1:¬ s=y:=fun e=>h (by rw [e];exact List.mem_cons_self)
  show zL ((.inr s,V.int i)::qal r (i + 1)) _=none
  rw [jh (p:=((.inr s:Key),V.int i)) (fun e=>h1 (Sum.inr.inj e))]
  exact qa7 fun m=>h (List.mem_cons_of_mem _ m)
theorem jM {y:Str}:∀ {ss:List Str} {i:Nat},y∈ss→∃ j,j < ss.length∧ss[j]?=some y∧zL (qal ss i) (.inr y:Key)=some (.int (i + j:Nat))
 | [],_,h=>by cases h
 | s::r,i,h=>by
  by_cases e:s=y
  ·subst e
   exact ⟨0,by simp,rfl,jq (p:=((.inr s:Key),V.int i)) rfl⟩
  ·rcases List.mem_cons.mp h with z | z
   ·exact absurd z.symm e
   ·obtain ⟨j,h1,h2,h3⟩:=jM (i:=i + 1) z
    refine ⟨j + 1,by simp;omega,by simpa using h2,?_⟩
    show zL ((.inr s,V.int i)::qal r (i + 1)) _=_
    rw [jh (p:=((.inr s:Key),V.int i)) (fun e'=>e (Sum.inr.inj e')),h3]
    have:i + 1 + j=i + (j + 1):=by omega
    rw [this]
theorem qa8 (y:Str) (ss:List Str) (i:Nat):(zL (qal ss i) (.inr y:Key)).isSome=decide (y∈ss):=by
 by_cases h:y∈ss
 ·obtain ⟨j,_,_,e⟩:=jM (i:=i) h
  rw [e,decide_eq_true h];rfl
 ·rw [qa7 h,decide_eq_false h];rfl
def qw (ss:List Str) (v:V):Bool:=if zF v=true then decide (qG v∈ss) else false
def qcy:Sp:=fun vs H Q _=>∃ (p:Addr) (n:Nat) (d:Addr) (ss:List Str) (v:V),vs=[.ref d,v]∧H d=some (.dK (qal ss 0))∧Th p H n v∧∀ H',L2.Same H H'→Q (.bl (qw ss v)) H'
theorem ok_place {f:Addr} {fd:FuncData} (F:Fun K "is_place" "is_place" jW f fd) (D_is_name:DefOk P w K mg base CX0 1 "is_name" ["thing"] qdY):FnOk P w K mg base CX0 2 f fd ["numbers", "thing"] qcy:=by
 refine F.ok sc_is_place (fun vs H Q E h=>?_) fun cdv A outer s H vs Q E hr h=>?_
 ·obtain ⟨p,n,d,ss,v,rfl,_⟩:=h;rfl
 ·obtain ⟨p,n,d,ss,v,rfl,hd,hv,q⟩:=h
  have hu:=zX hr
  refine ⟨_,(qf (qq (qdw (qu D_is_name (hmR hr) qC (qa (pv 1) qc)) (qdv (qaX (qdV (K:=K) rfl hu) (pv 1) (pv 0) (by with_unfolding_all rfl)))))),?_⟩
  walk_at "vc"
  refine ⟨p,n,v,rfl,hv,fun H1 s1=>?_⟩
  walk_at "vc"
  have q1:=q H1 s1
  unfold qw at q1
  refine jk (fun hc=>?_) fun hc=>?_
  ·walk_at "vc"
   rw [if_pos hc] at q1
   obtain ⟨e,_,_⟩:=jj hc
   generalize qG v=x at q1 e
   subst e
   refine .inr (.inl ⟨d,_,rfl,DGet.k (k:=Sum.inr x) (s1 d _ hd),?_⟩)
   rw [qa8]
   exact q1
  ·rw [if_neg hc] at q1
   exact q1
def qdp (ss:List Str) (y z:V):Bool:=qw ss y&&qw ss z&&!decide (qG y=qG z)
def zt (H:Hp) (ss:List Str) (x:V):Option (Str×Str):=match x with
 | .ref a=>(match H a with
  | some (.tup [y,z])=>if qdp ss y z=true then some (qG y,qG z) else none
  | _=>none)
 | _=>none
theorem qc5 {H:Hp} {ss:List Str} {a:Addr} {y z:V} (e:H a=some (.tup [y,z])):zt H ss (.ref a)=if qdp ss y z=true then some (qG y,qG z) else none:=by
 unfold zt
 dsimp only
 rw [e]
theorem jH {H:Hp} {ss:List Str} {x:V} (h:∀ a xs,x=.ref a→H a=some (.tup xs)→xs.length≠2):zt H ss x=none:=by
 unfold zt
 cases x with
 | ref a =>
  dsimp only
  split
  ·rename_i y z e;exact absurd rfl (h a _ rfl e)
  ·rfl
 | _=>rfl
theorem qb3 {p:Addr} {n:Nat} {H H':Hp} {ss:List Str} {x:V} (h:Th p H n x) (k:∀ b o,b≠p→H b=some o→H' b=some o):zt H' ss x=zt H ss x:=by
 cases h with
 | flat f l=>cases x<;>first | rfl | cases f
 | lst e ne h l=>rw [jH (H:=H') (fun a xs z y=>by (cases z;rw [k _ _ ne e] at y;cases y)),jH (H:=H) fun a xs z y=>by (cases z;rw [e] at y;cases y)]
 | tup e ne h l=>unfold zt;dsimp only;rw [k _ _ ne e,e]
 | dct e ne=>rw [jH (H:=H') (fun a xs z y=>by (cases z;rw [k _ _ ne e] at y;cases y)),jH (H:=H) fun a xs z y=>by (cases z;rw [e] at y;cases y)]
theorem tieV_same {p:Addr} {n:Nat} {H H':Hp} {ss:List Str} {x:V} (h:Th p H n x) (s:L2.Same H H'):zt H' ss x=zt H ss x:=qb3 h fun b o _ e=>s b o e
theorem j6 {ss:List Str} {v:V} (h:qw ss v=true):zF v=true∧qG v∈ss:=by
 unfold qw at h
 split at h
 ·rename_i z;exact ⟨z,of_decide_eq_true h⟩
 ·cases h
def qfy:Sp:=fun vs H Q _=>∃ (p:Addr) (n:Nat) (d:Addr) (ss:List Str) (v:V),vs=[.ref d,v]∧H d=some (.dK (qal ss 0))∧Th p H n v∧∀ H',L2.Same H H'→Q (.bl (zt H ss v).isSome) H'
theorem ok_two {f:Addr} {fd:FuncData} (F:Fun K "are_two_places" "are_two_places" qM f fd) (T:Txt K mg cc cw) (D_is_place:DefOk P w K mg base CX0 2 "is_place" ["numbers", "thing"] qcy):FnOk P w K mg base CX0 3 f fd ["numbers", "thing"] qfy:=by
 refine F.ok sc_are_two_places (fun vs H Q E h=>?_) fun cdv A outer s H vs Q E hr h=>?_
 ·obtain ⟨p,n,d,ss,v,rfl,_⟩:=h;rfl
 ·obtain ⟨p,n,d,ss,v,rfl,hd,hv,q⟩:=h
  have hu:=zX hr
  refine ⟨_,(qd (jf (PW.pt (qcl (jK (jr (qk (qbl (K:=K) rfl) rfl T.b_isinstance boot_isinstance (qa (pv 1) (qa (jQ (v:=.ty "tuple") rfl T.b_tuple boot_tuple rfl) qc))))) (qbg (qt (qbZ (K:=K) rfl hu) (qk (jT (K:=K) rfl) rfl T.b_len boot_len (qa (pv 1) qc)) qg (qB _))))) (qf (qq zA)) qv)
 (qd (qo (i:=2) sc_are_two_places.nd rfl (Or.inl rfl) (qdw (qu D_is_place (hmR hr) qC (qa (pv 0) (qa (qD (qE (K:=K) rfl hu) (pv 1) qg (fun _ _=>rfl)) qc))) (qdv (qu D_is_place (hmR hr) qC (qa (pv 0) (qa (qD (qE (K:=K) rfl hu) (pv 1) qg (fun _ _=>rfl)) qc))))))
 (qf (qq (qdw (pv 2) (qdv (qaX (qbZ (K:=K) rfl hu) (qD (qE (K:=K) rfl hu) (pv 1) qg (fun _ _=>rfl)) (qD (qE (K:=K) rfl hu) (pv 1) qg (fun _ _=>rfl)) (qB _)))))))),?_⟩
  obtain ⟨t,ht,ty,_,_,h1,h2,_⟩:=hv.ty (K:=K)
  walk_at "vc"
  refine qcw (.inl ty) rfl (qav K t ht "tuple" (by simp)) ?_
  walk_at "vc"
  refine jk (fun h=>?_) fun h=>?_
  ·walk_at "vc"
   have z:=q H (L2.Same.refl H)
   rw [jH (fun a xs e y=>absurd y (h2 (by simpa using h) a xs e))] at z
   exact z
  ·obtain ⟨a,xs,rfl,ea,_,hx⟩:=h1 (by simpa using h)
   walk_at "vc"
   refine qfr ea ?_
   walk_at "vc"
   refine .inl ⟨rfl,rfl,?_⟩
   walk_at "vc"
   refine jk (fun h=>?_) fun h=>?_
   ·walk_at "vc"
    have z:=q H (L2.Same.refl H)
    rw [jH (fun a' xs' e y=>by
     cases e
     rw [ea] at y
     cases y
     intro e2
     rw [e2] at h
     simp [eqV] at h)] at z
    exact z
   ·have hl:xs.length=2:=by
     simp only [if_true,eqV,Bool.not_eq_true',Bool.not_eq_false'] at h
     have h':((xs.length:Int)==2)=true:=by simpa using h
     have:=eq_of_beq h'
     omega
    match xs,hl,ea,hx with
    | [y,z],_,ea,hx =>
     have hy:=hx y (by simp)
     have hz:=hx z (by simp)
     rw [qc5 ea] at q
     walk_at "vc"
     refine .inl (qes ea rfl ?_)
     walk_at "vc"
     refine ⟨p,n,d,ss,y,rfl,hd,hy,fun H1 s1=>?_⟩
     walk_at "vc"
     have fin:∀ H2,L2.Same H H2→¬ (qw ss y=true∧qw ss z=true)→Q (.bl false) H2:=fun H2 s2 hn=>by
      have:=q H2 s2
      rw [if_neg (fun e=>hn (by unfold qdp at e;simp only [Bool.and_eq_true] at e;exact ⟨e.1.1,e.1.2⟩))] at this
      exact this
     refine jk (fun h3=>?_) fun h3=>?_
     ·walk_at "vc"
      refine .inl (qes (s1 _ _ ea) rfl ?_)
      walk_at "vc"
      refine ⟨p,n,d,ss,z,rfl,s1 _ _ hd,hz.same s1,fun H2 s2=>?_⟩
      walk_at "vc"
      refine jk (fun h4=>?_) fun h4=>?_
      ·walk_at "vc"
       refine .inl (qes (s2 _ _ (s1 _ _ ea)) rfl ?_)
       walk_at "vc"
       refine .inl (qes (s2 _ _ (s1 _ _ ea)) rfl ?_)
       obtain ⟨ny,_⟩:=j6 h3
       obtain ⟨nz,_⟩:=j6 h4
       obtain ⟨ey,_,_⟩:=jj ny
       obtain ⟨ez,_,_⟩:=jj nz
       have fq:=q H2 (s1.trans s2)
       unfold qdp at fq
       rw [h3,h4] at fq
       generalize qG y=sy at ey fq
       generalize qG z=sz at ez fq
       subst ey ez
       refine .inl ⟨rfl,rfl,?_⟩
       have e:(if true=true then !eqV (V.str sy) (V.str sz) else eqV (V.str sy) (V.str sz))=(if (true&&true&&!decide (sy=sz))=true then some (sy,sz) else none).isSome:=by
        by_cases hs:sy=sz
        ·subst hs;simp [eqV]
        ·simp [eqV,hs]
       rw [e]
       exact fq
      ·exact fin H2 (s1.trans s2) fun e=>h4 e.2
     ·walk_at "vc"
      refine jk (fun h=>by cases h) fun _=>?_
      exact fin H1 s1 fun e=>h3 e.1
end
abbrev jx:Stmt:=top 26
theorem sc_numbers_of:FnScope ["names", "numbers", "name"] ["names"] (qe jx):=⟨rfl,rfl,rfl,by decide +kernel,rfl,by decide +kernel,by decide +kernel⟩
theorem qa9 (m j:Nat):decide (Builtin.bitAnd ((m:Int) / 2 ^ (j:Int).toNat) 1=1)=m.testBit j:=by
 rw [PyProof.Rows.bitAnd_m1,Nat.testBit_eq_decide_div_mod_eq]
 rw [Int.toNat_natCast]
 have e:(m:Int) / 2 ^ j=((m / 2 ^ j:Nat):Int):=by rw [Int.natCast_ediv,Int.natCast_pow];rfl
 rw [e]
 congr 1
 apply propext
 omega
theorem qc6 (m j:Nat):Builtin.bitOr (m:Int) (1 * 2 ^ (j:Int).toNat)=((m ||| 2 ^ j:Nat):Int):=by
 have e:(1 * 2 ^ (j:Int).toNat:Int)=((2 ^ j:Nat):Int):=by rw [Int.toNat_natCast,Int.one_mul,Int.natCast_pow];rfl
 rw [e]
 generalize 2 ^ j=k
 have n1:Builtin.bitNot (m:Int)=-(m:Int) - 1:=rfl
 have n2:Builtin.bitNot (k:Int)=-(k:Int) - 1:=rfl
 unfold Builtin.bitOr Builtin.bitAnd
 rw [n1,n2,decide_eq_false (by omega),decide_eq_false (by omega)]
 dsimp only
 unfold Builtin.bitNot
 have e1:(-(-(m:Int) - 1) - 1).toNat=m:=by omega
 have e2:(-(-(k:Int) - 1) - 1).toNat=k:=by omega
 rw [e1,e2]
 omega
def But (x:Addr) (H H':Hp):Prop:=∀ b o,b≠x→H b=some o→H' b=some o
theorem But.refl (x:Addr) (H:Hp):But x H H:=fun _ _ _ e=>e
theorem But.same {x:Addr} {H H1 H2:Hp} (a:But x H H1) (b:L2.Same H1 H2):But x H H2:=fun c o n e=>b c o (a c o n e)
theorem But.put {x:Addr} {H H1:Hp} {o:HO} (a:But x H H1):But x H (upd H1 x o):=fun c u n e=>by rw [qi n];exact a c u n e
theorem But.new {x l:Addr} {H H1:Hp} {o:HO} (a:But x H H1) (hl:H1 l=none):But x H (upd H1 l o):=a.same (qY (L2.Same.refl H1) hl)
theorem qU {K:W.Frag} {H1:Hp} {C:Addr} {fl:Str} {y:V} {E:XK} (c:XAt K C) (q:∀ dx H',L2.Same H1 H'→H' dx=some (.xd [(fl,y)])→E (.ref C) (some dx) H') :
  [y].length≤1000∧∀ x,H1 x=none→spX C fl (.ref x::[y]) (upd H1 x (XN x C none)) (fun v H2=>v=.non∧∃ a C' dx,(V.ref x)=.ref a∧H2 a=some (XN a C' dx)∧XAt K C'∧E (.ref C') dx (upd H2 a (XO a C' dx))) E0:=by
 refine ⟨by show 1≤1000;decide,fun x hx=>⟨x,y,rfl,qb,fun dx hdx=>⟨rfl,x,C,some dx,rfl,qb,c,q dx _ (fun b o e=>?_) ?_⟩⟩⟩
 ·have nx:b≠x:=fun z=>by rw [z,hx] at e;cases e
  have nd:b≠dx:=fun z=>by rw [← z,qi nx,e] at hdx;cases hdx
  rw [qi nx,qi nx,qi nd,qi nx]
  exact e
 ·have nd:dx≠x:=fun z=>by rw [z,qb] at hdx;cases hdx
  rw [qi nd,qi nd,qb]
def qf7 (g:TG) (t:TS) (D:Ends) (σ:L2.St) (J:It) (H1:Hp):Prop:=∃ W:Nat→Nat→L2.St→Hp→Prop,(∃ m,W 0 m σ H1)∧∀ i m σ H,W i m σ H →
 (J.stop i H∧D.nx σ H)∨(J.go i H∧∃ N:L2.St→Hp→Prop,(∀ σ' H',N σ' H'→∃ m',m' < m∧W (i + 1) m' σ' H')∧∀ x H',J.yld i H x H'→g x σ H' fun σ2 H2=>t { D with nx:=N,ct:=N,bk:=D.nx } σ2 H2)
theorem qcz {K:W.Frag} {p:Addr} {H H1:Hp} {v:V} {xs:List V} {g:TG} {tb:TS} {D:Ends} {σ:L2.St} (h:Arg p H v (some xs)) (s1:L2.Same H H1) (Pv:Nat→L2.St→Hp→Prop) (h0:Pv 0 σ H1) (hl:∀ i σ H',Pv i σ H'→L2.Same H H')
  (hs:∀ i x σ H,xs[i]?=some x→Pv i σ H→g x σ H fun σ2 H2=>tb { D with nx:=Pv (i + 1),ct:=Pv (i + 1),bk:=D.nx } σ2 H2) (hd:∀ σ H,Pv xs.length σ H→D.nx σ H) :
  (match v with
   | .str x=>qf7 g tb D σ (Its x) H1
   | .ref a=>((∃ xs,SqL K H1 a xs)∧qf7 g tb D σ (Itl K a) H1)∨((∃ xs,SqT K H1 a xs)∧qf7 g tb D σ (Itt K a) H1)
   | _=>False):=by
 cases h with
 | lst e ne h l=>exact .inl ⟨⟨_,SqL.of (s1 _ _ e)⟩,jS (K:=K) Pv h0 (fun i σ H' _ hp=>SqL.of (hl i σ H' hp _ _ e)) hs hd⟩
 | tup e ne h l=>exact .inr ⟨⟨_,SqT.of (s1 _ _ e)⟩,for_tup (K:=K) Pv h0 (fun i σ H' _ hp=>SqT.of (hl i σ H' hp _ _ e)) hs hd⟩
theorem Arg.ty {K:W.Frag} {p:Addr} {H:Hp} {v:V} {o:Option (List V)} (h:Arg p H v o):∃ t,TyX K H v t∧W.kitAny K t [.type "list",.type "tuple"]=some o.isSome:=by
 cases h with
 | lst e ne h l=>exact ⟨_,.inl (.lst e),rfl⟩
 | tup e ne h l=>exact ⟨_,.inl (.tup e),rfl⟩
 | flat f l =>
  cases v with
  | non=>exact ⟨_,.inl .non,rfl⟩
  | bl x=>exact ⟨_,.inl (.bl x),rfl⟩
  | int x=>exact ⟨_,.inl (.int x),rfl⟩
  | str x=>exact ⟨_,.inl (.str x),rfl⟩
  | _=>cases f
 | dct e ne=>exact ⟨_,.inl (.dK e),rfl⟩
theorem Arg.len {K:W.Frag} {p:Addr} {H:Hp} {v:V} {xs:List V} {Q:VK} (h:Arg p H v (some xs)) (q:Q (.int xs.length) H):qcs K [v] H Q:=by
 cases h with
 | lst e ne h l=>exact qau e q
 | tup e ne h l=>exact qfr e q
theorem Arg.few {p:Addr} {H:Hp} {v:V} {xs:List V} (h:Arg p H v (some xs)):xs.length≤1000∧∀ x∈xs,Th p H 2 x:=by
 cases h with
 | lst e ne h l=>exact ⟨l,h⟩
 | tup e ne h l=>exact ⟨l,h⟩
theorem Arg.isi {K:W.Frag} {p q:Addr} {H:Hp} {v:V} {o:Option (List V)} {Q:VK} (h:Arg p H v o) (hq:H q=some (.tup [.ty "list",.ty "tuple"])) (k:Q (.bl o.isSome) H):qeC K [v,.ref q] H Q:=by
 obtain ⟨t,ty,e⟩:=h.ty (K:=K)
 exact ⟨v,q,_,t,_,_,rfl,ty,hq,rfl,e,k⟩
def qdq:List V→List Str→Option (Nat×V)
 | [],_=>none
 | x::r,ss=>if zF x=true then (if qG x∈ss then some (1,x) else qdq r (ss++[qG x])) else some (0,x)
theorem qb4 (x:V) (r:List V) (ss:List Str):qdq (x::r) ss=if zF x=true then (if qG x∈ss then some (1,x) else qdq r (ss++[qG x])) else some (0,x):=rfl
theorem qb5:∀ {xs:List V} {ss:List Str},qdq xs ss=none→xs=(xs.map qG).map V.str∧(∀ x∈xs,zF x=true)∧(∀ s∈xs.map qG,s∉ss)∧(xs.map qG).Nodup
 | [],ss,_=>⟨rfl,by simp,by simp,by simp⟩
 | x::r,ss,h=>by
  unfold qdq at h
  split at h
  ·rename_i hn
   split at h
   ·cases h
   ·rename_i hm
    obtain ⟨i1,i2,i3,i4⟩:=qb5 h
    obtain ⟨e,_,_⟩:=jj hn
    refine ⟨?_,?_,?_,?_⟩
    ·rw [List.map_cons,List.map_cons,← e,← i1]
    ·intro y hy
     rcases List.mem_cons.mp hy with rfl | hy
     ·exact hn
     ·exact i2 y hy
    ·intro s hs
     rcases List.mem_cons.mp hs with rfl | hs
     ·exact hm
     ·exact fun z=>i3 s hs (List.mem_append_left _ z)
    ·rw [List.map_cons,List.nodup_cons]
     exact ⟨fun z=>i3 _ z (List.mem_append_right _ (by simp)),i4⟩
  ·cases h
def qfb (v:V):Option (List V)→Option (Nat×V)
 | none=>some (0,v)
 | some xs=>if 14 < xs.length then some (4,.int xs.length) else qdq xs []
def Rz (cc:Nat→Addr) (H:Hp) (E:XK) (r:Nat×V):Prop:=∀ dx H',L2.Same H H'→H' dx=some (.xd [(qaE r.1,r.2)])→E (.ref (cc r.1)) (some dx) H'
theorem Rz.later {cc:Nat→Addr} {H H1:Hp} {E:XK} {r:Nat×V} (h:Rz cc H E r) (s:L2.Same H H1):Rz cc H1 E r:=fun dx H' t e=>h dx H' (s.trans t) e
def qeG (cc:Nat→Addr):Sp:=fun vs H Q E=>∃ (p:Addr) (v:V) (o:Option (List V)),vs=[v]∧Arg p H v o∧(∀ r,qfb v o=some r→Rz cc H E r)∧(qfb v o=none→∀ d H',L2.Same H H'→H d=none→H' d=some (.dK (qal ((o.getD []).map qG) 0))→Q (.ref d) H')
section
variable {P:Program} {w:World} {K:W.Frag} {mg:Str→Option Value} {base:Heap} {cc:Nat→Addr} {cw:Addr}
theorem ok_nums {f:Addr} {fd:FuncData} (F:Fun K "numbers_of" "numbers_of" jx f fd) (T:Txt K mg cc cw) (D_is_name:DefOk P w K mg base CX0 1 "is_name" ["thing"] qdY)
  (D_NoName:XMakeOk P w K mg base 2 (cc 0) "NoName" ["self", "found"] (spX (cc 0) (qaE 0))) (D_Twice:XMakeOk P w K mg base 2 (cc 1) "Twice" ["self", "name"] (spX (cc 1) (qaE 1))) (D_TooMany:XMakeOk P w K mg base 2 (cc 4) "TooMany" ["self", "many"] (spX (cc 4) (qaE 4))) :
  FnOk P w K mg base (CX1 P w) 4 f fd ["names"] (qeG cc):=by
 refine F.ok1 sc_numbers_of (fun vs H Q E h=>?_) fun cdv A outer s H vs Q E hr h=>?_
 ·obtain ⟨p,v,o,rfl,_⟩:=h;rfl
 ·obtain ⟨p,v,o,rfl,ha,hz,q⟩:=h
  have hu:=zX hr
  refine ⟨_,(qd (jf (jK (jr (qk (qbt (K:=K) rfl) rfl T.b_isinstance boot_isinstance (qa (pv 0) (qa (zh (qa (jQ (v:=.ty "list") rfl T.b_list boot_list rfl) (qa (jQ (v:=.ty "tuple") rfl T.b_tuple boot_tuple rfl) qc))) qc))))) (qf (j4 (K:=K) rfl qZ (qa3 D_NoName (hmR hr) (qa (pv 0) qc)))) qv)
 (qd (jf (qt qeT (qk (jT (K:=K) rfl) rfl T.b_len boot_len (qa (pv 0) qc)) (qbr rfl T.g_MOST_PLACES) (qB _)) (qf (j4 (K:=K) rfl qZ (qa3 D_TooMany (hmR hr) (qa (qk (jT (K:=K) rfl) rfl T.b_len boot_len (qa (pv 0) qc)) qc)))) qv)
 (qd (qo (i:=1) sc_numbers_of.nd rfl (Or.inl rfl) qaL)
 (qd (jt PassesOwn.leaving rfl (jo (K:=K) rfl (pv 0)) (qr (i:=2) sc_numbers_of.nd rfl (Or.inl rfl))
 (qd (jf (jK (jr (qu D_is_name (hmR hr) qC (qa (pv 2) qc)))) (qf (j4 (K:=K) rfl qZ (qa3 D_NoName (hmR hr) (qa (pv 2) qc)))) qv)
 (qd (jf (qt (qdV (K:=K) rfl hu) (pv 2) (pv 1) (by with_unfolding_all rfl)) (qf (j4 (K:=K) rfl qZ (qa3 D_Twice (hmR hr) (qa (pv 2) qc)))) qv)
 (qf (qab (qk (jT (K:=K) rfl) rfl T.b_len boot_len (qa (pv 1) qc)) (qaa (pv 1) (pv 2) (qaj hu)))))))
 (qf (qq (pv 1))))))),?_⟩
  walk_at "vc"
  refine ⟨by show 2≤sizeLine;decide,fun g hg=>?_⟩
  have s0:=qY (L2.Same.refl H) (o:=.tup [.ty "list",.ty "tuple"]) hg
  walk_at "vc"
  refine (ha.same s0).isi qb ?_
  walk_at "vc"
  cases o with
  | none =>
   refine jk (fun _=>?_) (fun h=>absurd rfl h)
   walk_at "vc"
   exact qU (T.xat 0 (by decide)) ((hz (0,v) rfl).later s0)
  | some xs =>
   refine jk (fun h=>by cases h) fun _=>?_
   obtain ⟨few,hth⟩:=ha.few
   walk_at "vc"
   refine (ha.same s0).len ?_
   walk_at "vc"
   refine jk (fun h=>?_) fun h=>?_
   ·walk_at "vc"
    refine (ha.same s0).len ?_
    walk_at "vc"
    have h':14 < xs.length:=by have:=of_decide_eq_true h;omega
    exact qU (T.xat 4 (by decide)) ((hz (4,.int xs.length) (by show (if 14 < xs.length then _ else _)=_;rw [if_pos h'])).later s0)
   ·have h':¬ 14 < xs.length:=fun z=>h (decide_eq_true (by omega))
    have ho:qfb v (some xs)=qdq xs []:=by show (if 14 < xs.length then _ else _)=_;rw [if_neg h']
    rw [ho] at hz q
    walk_at "vc"
    intro d hd
    have s1:=qY s0 (o:=.dK []) hd
    have hd0:H d=none:=s0.free hd
    walk_at "vc"
    refine qcz ha s1 (fun i σ H'=>∃ v2,σ=[some v,some (.ref d),v2]∧L2.Same H H'∧H' d=some (.dK (qal ((xs.take i).map qG) 0))∧qdq xs []=qdq (xs.drop i) ((xs.take i).map qG)) ⟨none,rfl,s1,qb,rfl⟩ (fun i σ H' hp=>by obtain ⟨_,_,z,_⟩:=hp;exact z) (fun i x σ H' hx hp=>?_) fun σ H' hp=>?_
    ·obtain ⟨v2,rfl,s2,hk,hdue⟩:=hp
     have hil:i < xs.length:=(List.getElem?_eq_some_iff.mp hx).1
     have hdr:xs.drop i=x::xs.drop (i + 1):=by
      rw [List.drop_eq_getElem_cons hil]
      have:=(List.getElem?_eq_some_iff.mp hx).2
      rw [this]
     have htk:xs.take (i + 1)=xs.take i++[x]:=by rw [List.take_add_one,hx];rfl
     rw [hdr,qb4] at hdue
     walk_at "vc"
     refine ⟨p,2,x,rfl,(hth x (List.mem_of_getElem? hx)).same s2,fun H1 t1=>?_⟩
     have s3:=s2.trans t1
     walk_at "vc"
     refine jk (fun hn=>?_) fun hn=>?_
     ·walk_at "vc"
      have hn':¬ zF x=true:=by simpa using hn
      rw [if_neg hn'] at hdue
      exact qU (T.xat 0 (by decide)) ((hz (0,x) hdue).later s3)
     ·have hn':zF x=true:=by simpa using hn
      rw [if_pos hn'] at hdue
      obtain ⟨ex,_,hx6⟩:=jj hn'
      have key:∀ y,y=qG x→x=.str y:=fun y hy=>by rw [hy];exact ex
      generalize hy:qG x=y at hdue hx6 ex
      subst ex
      walk_at "vc"
      refine .inr (.inl ⟨d,_,rfl,DGet.k (k:=Sum.inr y) (t1 _ _ hk),?_⟩)
      rw [qa8]
      walk_at "vc"
      refine jk (fun hm=>?_) fun hm=>?_
      ·walk_at "vc"
       have hm':y∈(xs.take i).map qG:=of_decide_eq_true hm
       rw [if_pos hm'] at hdue
       exact qU (T.xat 1 (by decide)) ((hz (1,.str y) hdue).later s3)
      ·have hm':y∉(xs.take i).map qG:=fun z=>hm (decide_eq_true z)
       rw [if_neg hm'] at hdue
       walk_at "vc"
       refine .inr ⟨_,t1 _ _ hk,?_⟩
       walk_at "vc"
       refine .inr ⟨d,_,rfl,DPut.k (k:=Sum.inr y) (t1 _ _ hk) (qh (by rw [zr,List.length_map,List.length_take];omega)),?_⟩
       refine ⟨_,rfl,qeY s3 hd0,?_,?_⟩
       ·rw [qb,qcT _ (qa7 hm'),htk,List.map_append,List.map_cons,List.map_nil,qb2,zr]
        simp only [Nat.zero_add]
        rfl
       ·rw [hdue,htk,List.map_append]
        rfl
    ·obtain ⟨v2,rfl,s2,hk,hdue⟩:=hp
     rw [List.drop_length] at hdue
     walk_at "vc"
     rw [List.take_length] at hk
     exact q hdue d H' s2 hd0 hk
end
abbrev jX:Stmt:=ji (top 22) 0
theorem sc_Web_init:FnScope ["self", "names", "ties"] ["self", "names", "ties"] (qe jX):=⟨rfl,rfl,rfl,by decide +kernel,rfl,by decide +kernel,by decide +kernel⟩
abbrev zj:Stmt:=top 27
theorem sc_near_of:FnScope ["numbers", "ties", "near", "tie", "one", "other"] ["numbers", "ties"] (qe zj):=⟨rfl,rfl,rfl,by decide +kernel,rfl,by decide +kernel,by decide +kernel⟩
def goT (H:Hp) (ss:List Str):List V→List (Str×Str)→Option V
 | [],_=>none
 | x::r,seen=>match zt H ss x with
  | none=>some x
  | some t=>if t∈seen∨(t.2,t.1)∈seen then some x else goT H ss r (seen++[t])
theorem qd0 {H:Hp} {ss:List Str} {x:V} {r:List V} {seen:List (Str×Str)} (h:zt H ss x=none):goT H ss (x::r) seen=some x:=by
 show (match zt H ss x with | none=>_ | some t=>_)=_
 rw [h]
theorem qc7 {H:Hp} {ss:List Str} {x:V} {r:List V} {seen:List (Str×Str)} {t:Str×Str} (h:zt H ss x=some t):goT H ss (x::r) seen=if t∈seen∨(t.2,t.1)∈seen then some x else goT H ss r (seen++[t]):=by
 show (match zt H ss x with | none=>_ | some t=>_)=_
 rw [h]
def qed (H:Hp) (ss:List Str) (v:V):Option (List V)→Option (Nat×V)
 | none=>some (3,v)
 | some xs=>if 30 < xs.length then some (4,.int xs.length) else (goT H ss xs []).map fun y=>(3,y)
theorem tieV_some {H:Hp} {ss:List Str} {x:V} {t:Str×Str} (h:zt H ss x=some t):∃ a,x=.ref a∧H a=some (.tup [.str t.1,.str t.2])∧zy t.1=true∧zy t.2=true∧t.1.length≤6∧t.2.length≤6∧t.1∈ss∧t.2∈ss∧t.1≠t.2:=by
 unfold zt at h
 split at h
 ·rename_i a
  split at h
  ·rename_i y z e
   split at h
   ·rename_i hp
    cases h
    unfold qdp at hp
    simp only [Bool.and_eq_true] at hp
    obtain ⟨⟨h1,h2⟩,h3⟩:=hp
    obtain ⟨n1,m1⟩:=j6 h1
    obtain ⟨n2,m2⟩:=j6 h2
    obtain ⟨e1,g1,l1⟩:=jj n1
    obtain ⟨e2,g2,l2⟩:=jj n2
    refine ⟨a,rfl,?_,g1,g2,l1,l2,m1,m2,?_⟩
    ·show H a=some (.tup [.str (qG y),.str (qG z)])
     rw [← e1,← e2]
     exact e
    ·simpa using h3
   ·cases h
  ·cases h
 ·cases h
def jN (ss:List Str) (ns:List Nat) (seen:List (Str×Str)):Prop:=ns.length=ss.length∧(∀ a,ns.getD a 0 < 2 ^ ss.length)∧∀ a b s t,ss[a]?=some s→ss[b]?=some t→(ns.getD a 0).testBit b=decide ((s,t)∈seen∨(t,s)∈seen)
theorem qA {ss:List Str} (h:ss.Nodup) {a b:Nat} {s:Str} (ha:ss[a]?=some s) (hb:ss[b]?=some s):a=b:=by
 have hp:=List.pairwise_iff_getElem.mp h
 obtain ⟨la,ea⟩:=List.getElem?_eq_some_iff.mp ha
 obtain ⟨lb,eb⟩:=List.getElem?_eq_some_iff.mp hb
 rcases Nat.lt_trichotomy a b with q | q | q
 ·exact absurd (ea.trans eb.symm) (hp a b la lb q)
 ·exact q
 ·exact absurd (eb.trans ea.symm) (hp b a lb la q)
theorem bits_zero {ss:List Str}:jN ss (List.replicate ss.length 0) []:=by
 have z:∀ a,(List.replicate ss.length 0).getD a 0=0:=fun a=>by
  simp only [List.getD,List.getElem?_replicate]
  split<;>rfl
 refine ⟨by simp,fun a=>by rw [z a];exact Nat.two_pow_pos _,fun a b s t ha hb=>?_⟩
 rw [z a]
 simp
theorem zc {ns:List Nat} {i j v:Nat} (h:i < ns.length):(ns.set i v).getD j 0=if i=j then v else ns.getD j 0:=by
 simp only [List.getD,List.getElem?_set]
 by_cases e:i=j
 ·subst e;simp [h]
 ·simp [e]
theorem bits_step {ss:List Str} {ns:List Nat} {seen:List (Str×Str)} (hb:jN ss ns seen) (hn:ss.Nodup) {i j:Nat} {s t:Str} (hi:ss[i]?=some s) (hj:ss[j]?=some t) (hst:s≠t) :
  jN ss ((ns.set i (ns.getD i 0 ||| 2 ^ j)).set j (ns.getD j 0 ||| 2 ^ i)) (seen++[(s,t)]):=by
 obtain ⟨hl,hlt,h⟩:=hb
 have li:i < ns.length:=by rw [hl];exact (List.getElem?_eq_some_iff.mp hi).1
 have lj:j < ns.length:=by rw [hl];exact (List.getElem?_eq_some_iff.mp hj).1
 have nij:i≠j:=fun e=>by rw [e,hj] at hi;cases hi;exact hst rfl
 have li':i < ss.length:=(List.getElem?_eq_some_iff.mp hi).1
 have lj':j < ss.length:=(List.getElem?_eq_some_iff.mp hj).1
 refine ⟨by simp [hl],fun a=>?_,fun a b u v ha hb'=>?_⟩
 ·rw [zc (by simpa using lj),zc li]
  split
  ·exact Nat.or_lt_two_pow (hlt _) (Nat.pow_lt_pow_right (by decide) li')
  ·split
   ·exact Nat.or_lt_two_pow (hlt _) (Nat.pow_lt_pow_right (by decide) lj')
   ·exact hlt _
 rw [zc (by simpa using lj),zc li]
 have h0:=h a b u v ha hb'
 have key:∀ P Q:Prop,(P↔Q)→∀ [Decidable P] [Decidable Q],decide P=decide Q:=fun P Q e=>by intro _ _;exact decide_eq_decide.mpr e
 by_cases ja:j=a
 ·subst ja
  rw [hj] at ha
  cases ha
  rw [if_pos rfl,Nat.testBit_or,h0,Nat.testBit_two_pow]
  by_cases ib:i=b
  ·subst ib
   rw [hi] at hb'
   cases hb'
   simp
  ·have vs:v≠s:=fun e=>by subst e;exact ib (qA hn hi hb')
   simp only [ib,decide_false,Bool.or_false]
   apply decide_eq_decide.mpr
   simp only [List.mem_append,List.mem_singleton,Prod.mk.injEq]
   constructor
   ·rintro (z | z)
    ·exact .inl (.inl z)
    ·exact .inr (.inl z)
   ·rintro ((z | ⟨z,_⟩) | (z | ⟨z,_⟩))
    ·exact .inl z
    ·exact absurd z.symm hst
    ·exact .inr z
    ·exact absurd z vs
 ·rw [if_neg ja]
  by_cases ia:i=a
  ·subst ia
   rw [hi] at ha
   cases ha
   rw [if_pos rfl,Nat.testBit_or,h0,Nat.testBit_two_pow]
   by_cases jb:j=b
   ·subst jb
    rw [hj] at hb'
    cases hb'
    simp
   ·have vt:v≠t:=fun e=>by subst e;exact jb (qA hn hj hb')
    simp only [jb,decide_false,Bool.or_false]
    apply decide_eq_decide.mpr
    simp only [List.mem_append,List.mem_singleton,Prod.mk.injEq]
    constructor
    ·rintro (z | z)
     ·exact .inl (.inl z)
     ·exact .inr (.inl z)
    ·rintro ((z | ⟨_,z⟩) | (z | ⟨_,z⟩))
     ·exact .inl z
     ·exact absurd z vt
     ·exact .inr z
     ·exact absurd z hst
  ·rw [if_neg ia,h0]
   have us:u≠s:=fun e=>by subst e;exact ia (qA hn hi ha)
   have ut:u≠t:=fun e=>by subst e;exact ja (qA hn hj ha)
   apply decide_eq_decide.mpr
   simp only [List.mem_append,List.mem_singleton,Prod.mk.injEq]
   constructor
   ·rintro (z | z)
    ·exact .inl (.inl z)
    ·exact .inr (.inl z)
   ·rintro ((z | ⟨z,_⟩) | (z | ⟨_,z⟩))
    ·exact .inl z
    ·exact absurd z us
    ·exact .inr z
    ·exact absurd z ut
def qam (ns:List Nat):List V:=ns.map fun (n:Nat)=>.int (n:Int)
theorem zd {ns:List Nat} {i:Nat} (h:i < ns.length):(qam ns)[i]?=some (.int (ns.getD i 0:Nat)):=by
 unfold qam
 rw [List.getElem?_map,List.getElem?_eq_getElem h]
 simp [List.getD,h]
theorem qaN (ns:List Nat) (i m:Nat):(qam ns).set i (.int m)=qam (ns.set i m):=by
 unfold qam
 rw [List.map_set]
theorem qb6 (k:Nat):(List.replicate k [V.int 0]).flatten=qam (List.replicate k 0):=by
 induction k with
 | zero=>rfl
 | succ k ih=>rw [List.replicate_succ,List.flatten_cons,ih];rfl
theorem qbv {n j:Nat} (h:j < n):ixN n (j:Int)=some j:=by
 unfold ixN
 rw [if_pos (by omega),if_pos (by omega)]
 rfl
def qeH (cc:Nat→Addr):Sp:=fun vs H Q E=>∃ (p d:Addr) (ss:List Str) (v:V) (o:Option (List V)),vs=[.ref d,v]∧H d=some (.dK (qal ss 0))∧ss.length≤14∧ss.Nodup∧Arg p H v o∧(∀ r,qed H ss v o=some r→Rz cc H E r) ∧
 (qed H ss v o=none→∀ n ns H',L2.Same H H'→H n=none→H' n=some (.lst (qam ns))→jN ss ns ((o.getD []).filterMap (zt H ss))→Q (.ref n) H')
section
variable {P:Program} {w:World} {K:W.Frag} {mg:Str→Option Value} {base:Heap} {cc:Nat→Addr} {cw:Addr}
theorem ok_near {f:Addr} {fd:FuncData} (F:Fun K "near_of" "near_of" zj f fd) (T:Txt K mg cc cw) (D_are_two_places:DefOk P w K mg base CX0 3 "are_two_places" ["numbers", "thing"] qfy) (D_has_bit:DefOk P w K mg base CX0 1 "has_bit" ["bits", "number"] qdZ)
  (D_NoTie:XMakeOk P w K mg base 2 (cc 3) "NoTie" ["self", "found"] (spX (cc 3) (qaE 3))) (D_TooMany:XMakeOk P w K mg base 2 (cc 4) "TooMany" ["self", "many"] (spX (cc 4) (qaE 4))) :
  FnOk P w K mg base (CX1 P w) 4 f fd ["numbers", "ties"] (qeH cc):=by
 refine F.ok1 sc_near_of (fun vs H Q E h=>?_) fun cdv A outer s H vs Q E hr h=>?_
 ·obtain ⟨p,d,ss,v,o,rfl,_⟩:=h;rfl
 ·obtain ⟨p,d,ss,v,o,rfl,hd,hs14,hnd,ha,hz,q⟩:=h
  have hu:=zX hr
  refine ⟨_,(qd (jf (jK (jr (qk (qbt (K:=K) rfl) rfl T.b_isinstance boot_isinstance (qa (pv 1) (qa (zh (qa (jQ (v:=.ty "list") rfl T.b_list boot_list rfl) (qa (jQ (v:=.ty "tuple") rfl T.b_tuple boot_tuple rfl) qc))) qc))))) (qf (j4 (K:=K) rfl qZ (qa3 D_NoTie (hmR hr) (qa (pv 1) qc)))) qv)
 (qd (jf (qt qeT (qk (jT (K:=K) rfl) rfl T.b_len boot_len (qa (pv 1) qc)) (qbr rfl T.g_MOST_TIES) (qB _)) (qf (j4 (K:=K) rfl qZ (qa3 D_TooMany (hmR hr) (qa (qk (jT (K:=K) rfl) rfl T.b_len boot_len (qa (pv 1) qc)) qc)))) qv)
 (qd (qo (i:=2) sc_near_of.nd rfl (Or.inl rfl) (qp qdJ (qK (qa qg qc)) (qk (jT (K:=K) rfl) rfl T.b_len boot_len (qa (pv 0) qc))))
 (qd (jt PassesOwn.leaving rfl (jo (K:=K) rfl (pv 1)) (qr (i:=3) sc_near_of.nd rfl (Or.inl rfl))
 (qd (jf (jK (jr (qu D_are_two_places (hmR hr) qC (qa (pv 0) (qa (pv 3) qc))))) (qf (j4 (K:=K) rfl qZ (qa3 D_NoTie (hmR hr) (qa (pv 3) qc)))) qv)
 (qd (qo (i:=4) sc_near_of.nd rfl (Or.inl rfl) (qD (qE (K:=K) rfl hu) (pv 0) (qD (qE (K:=K) rfl hu) (pv 3) qg (fun _ _=>rfl)) (fun _ _=>rfl)))
 (qd (qo (i:=5) sc_near_of.nd rfl (Or.inl rfl) (qD (qE (K:=K) rfl hu) (pv 0) (qD (qE (K:=K) rfl hu) (pv 3) qg (fun _ _=>rfl)) (fun _ _=>rfl)))
 (qd (jf (jr (qu D_has_bit (hmR hr) qC (qa (qD (qE (K:=K) rfl hu) (pv 2) (pv 4) (fun _ _=>rfl)) (qa (pv 5) qc)))) (qf (j4 (K:=K) rfl qZ (qa3 D_NoTie (hmR hr) (qa (pv 3) qc)))) qv)
 (qd (qab (qp qcp (qD (qE (K:=K) rfl hu) (pv 2) (pv 4) (fun _ _=>rfl)) (qp qaV qg (pv 5))) (qaa (pv 2) (pv 4) (qaj hu)))
 (qf (qab (qp qcp (qD (qE (K:=K) rfl hu) (pv 2) (pv 5) (fun _ _=>rfl)) (qp qaV qg (pv 4))) (qaa (pv 2) (pv 5) (qaj hu))))))))))
 (qf (qq (pv 2))))))),?_⟩
  walk_at "vc"
  refine ⟨by show 2≤sizeLine;decide,fun g hg=>?_⟩
  have s0:=qY (L2.Same.refl H) (o:=.tup [.ty "list",.ty "tuple"]) hg
  walk_at "vc"
  refine (ha.same s0).isi qb ?_
  walk_at "vc"
  cases o with
  | none =>
   refine jk (fun _=>?_) (fun h=>absurd rfl h)
   walk_at "vc"
   exact qU (T.xat 3 (by decide)) ((hz (3,v) rfl).later s0)
  | some xs =>
   refine jk (fun h=>by cases h) fun _=>?_
   obtain ⟨few,hth⟩:=ha.few
   walk_at "vc"
   refine (ha.same s0).len ?_
   walk_at "vc"
   refine jk (fun h=>?_) fun h=>?_
   ·walk_at "vc"
    refine (ha.same s0).len ?_
    walk_at "vc"
    have h':30 < xs.length:=by have:=of_decide_eq_true h;omega
    exact qU (T.xat 4 (by decide)) ((hz (4,.int xs.length) (by show (if 30 < xs.length then _ else _)=_;rw [if_pos h'])).later s0)
   ·have h':¬ 30 < xs.length:=fun z=>h (decide_eq_true (by omega))
    have ho:qed H ss v (some xs)=(goT H ss xs []).map fun y=>(3,y):=by show (if 30 < xs.length then _ else _)=_;rw [if_neg h']
    rw [ho] at hz q
    walk_at "vc"
    refine ⟨by show 1≤sizeLine;decide,fun z hzz=>?_⟩
    have s1:=qY s0 (o:=.lst [.int 0]) hzz
    walk_at "vc"
    refine .inr ⟨_,s1 _ _ hd,?_⟩
    walk_at "vc"
    rw [zr]
    refine ⟨z,_,_,rfl,rfl,qb,by omega,by omega,by show 1 * _≤sizeLine;rw [Int.toNat_natCast];exact Nat.le_of_lt (qh (by omega)),fun n hn=>?_⟩
    rw [Int.toNat_natCast,qb6]
    have s2:=qY s1 (o:=.lst (qam (List.replicate ss.length 0))) hn
    have n0:H n=none:=s1.free hn
    walk_at "vc"
    refine qcz ha s2 (fun i σ H'=>∃ v3 v4 v5 ns,σ=[some (.ref d),some v,some (.ref n),v3,v4,v5]∧L2.Same H H'∧H' n=some (.lst (qam ns))∧jN ss ns ((xs.take i).filterMap (zt H ss))∧goT H ss xs []=goT H ss (xs.drop i) ((xs.take i).filterMap (zt H ss)))
     ⟨none,none,none,_,rfl,s2,qb,bits_zero,rfl⟩ (fun i σ H' hp=>by obtain ⟨_,_,_,_,_,z,_⟩:=hp;exact z) (fun i x σ H' hx hp=>?_) fun σ H' hp=>?_
    ·obtain ⟨v3,v4,v5,ns,rfl,s3,hnn,hbits,hgo⟩:=hp
     have hil:i < xs.length:=(List.getElem?_eq_some_iff.mp hx).1
     have hdr:xs.drop i=x::xs.drop (i + 1):=by
      rw [List.drop_eq_getElem_cons hil]
      have:=(List.getElem?_eq_some_iff.mp hx).2
      rw [this]
     have htk:xs.take (i + 1)=xs.take i++[x]:=by rw [List.take_add_one,hx];rfl
     have hxt:=hth x (List.mem_of_getElem? hx)
     rw [hdr] at hgo
     walk_at "vc"
     refine ⟨p,2,d,ss,x,rfl,s3 _ _ hd,hxt.same s3,fun H1 t1=>?_⟩
     rw [tieV_same hxt s3]
     have s4:=s3.trans t1
     have hn1:=t1 _ _ hnn
     walk_at "vc"
     cases ht:zt H ss x with
     | none =>
      refine jk (fun _=>?_) (fun h=>absurd rfl h)
      walk_at "vc"
      rw [qd0 ht] at hgo
      exact qU (T.xat 3 (by decide)) ((hz (3,x) (by rw [hgo];rfl)).later s4)
     | some st =>
      refine jk (fun h=>by cases h) fun _=>?_
      obtain ⟨a,rfl,ea,n1,n2,l1,l2,m1,m2,hne⟩:=tieV_some ht
      rw [qc7 ht] at hgo
      obtain ⟨sx,sy⟩:=st
      dsimp only at ea n1 n2 l1 l2 m1 m2 hne hgo
      obtain ⟨ja,hja,gja,vja⟩:=jM (i:=0) m1
      obtain ⟨jb,hjb,gjb,vjb⟩:=jM (i:=0) m2
      rw [Nat.zero_add] at vja vjb
      have nab:ja≠jb:=fun e=>by rw [e,gjb] at gja;cases gja;exact hne rfl
      have lna:ja < ns.length:=by rw [hbits.1];exact hja
      have lnb:jb < ns.length:=by rw [hbits.1];exact hjb
      walk_at "vc"
      refine .inl (qes (s4 _ _ ea) rfl ?_)
      refine .inr ⟨d,.int ja,rfl,?_,?_⟩
      ·have:=DGet.k (k:=Sum.inr sx) (s4 _ _ hd)
       rw [vja] at this
       exact this
      walk_at "vc"
      refine .inl (qes (s4 _ _ ea) rfl ?_)
      refine .inr ⟨d,.int jb,rfl,?_,?_⟩
      ·have:=DGet.k (k:=Sum.inr sy) (s4 _ _ hd)
       rw [vjb] at this
       exact this
      walk_at "vc"
      refine .inl (zZ hn1 (qH (zd lna)) ?_)
      walk_at "vc"
      refine ⟨_,_,rfl,by omega,?_⟩
      rw [qa9,hbits.2.2 ja jb sx sy gja gjb]
      walk_at "vc"
      refine jk (fun hm=>?_) fun hm=>?_
      ·walk_at "vc"
       rw [if_pos (of_decide_eq_true hm)] at hgo
       exact qU (T.xat 3 (by decide)) ((hz (3,.ref a) (by rw [hgo];rfl)).later s4)
      ·rw [if_neg (fun e=>hm (decide_eq_true e))] at hgo
       walk_at "vc"
       refine .inl (zZ hn1 (qH (zd lna)) ?_)
       walk_at "vc"
       refine vI ⟨by omega,by omega,by decide⟩ ?_
       walk_at "vc"
       rw [qc6]
       refine .inl (qdo hn1 (qbv (by unfold qam;rw [List.length_map];exact lna)) ?_)
       rw [qaN]
       walk_at "vc"
       have e2:(ns.set ja (ns.getD ja 0 ||| 2 ^ jb)).getD jb 0=ns.getD jb 0:=by rw [zc lna,if_neg nab]
       refine .inl (zZ qb (qH (zd (by simpa using lnb))) ?_)
       walk_at "vc"
       refine vI ⟨by omega,by omega,by decide⟩ ?_
       walk_at "vc"
       rw [qc6,e2]
       refine .inl (qdo qb (qbv (by unfold qam;rw [List.length_map];simpa using lnb)) ?_)
       rw [qaN]
       have hfm:(xs.take (i + 1)).filterMap (zt H ss)=(xs.take i).filterMap (zt H ss)++[(sx,sy)]:=by
        rw [htk,List.filterMap_append]
        simp [ht]
       refine ⟨_,_,_,_,rfl,qeY (qeY s4 n0) n0,qb,?_,?_⟩
       ·rw [hfm]
        exact bits_step hbits hnd gja gjb hne
       ·rw [hfm]
        exact hgo
    ·obtain ⟨v3,v4,v5,ns,rfl,s3,hnn,hbits,hgo⟩:=hp
     rw [List.drop_length] at hgo
     walk_at "vc"
     rw [List.take_length] at hbits
     exact q (by rw [hgo];rfl) n _ H' s3 n0 hnn hbits
def qeZ (H:Hp) (v:V) (o:Option (List V)) (v2:V) (o2:Option (List V)):Option (Nat×V):=match qfb v o with
 | some r=>some r
 | none=>qed H ((o.getD []).map qG) v2 o2
theorem outN_good {v:V} {o:Option (List V)} (h:qfb v o=none):∃ xs,o=some xs∧xs.length≤14∧xs=(xs.map qG).map V.str∧(∀ x∈xs,zF x=true)∧(xs.map qG).Nodup:=by
 cases o with
 | none=>cases h
 | some xs =>
  have h':(if 14 < xs.length then some ((4:Nat),V.int xs.length) else qdq xs [])=none:=h
  split at h'
  ·cases h'
  ·obtain ⟨a,b,c,d⟩:=qb5 h'
   exact ⟨xs,rfl,by omega,a,b,d⟩
theorem qc8 {p x:Addr} {H H':Hp} {ss:List Str} (k:∀ b o,b≠p→H b=some o→H' b=some o):∀ (xs:List V) (seen:List (Str×Str)),(∀ x∈xs,Th p H 2 x)→goT H' ss xs seen=goT H ss xs seen
 | [],_,_=>rfl
 | y::r,seen,h=>by
  have e:=qb3 (ss:=ss) (h y List.mem_cons_self) k
  have hr:=fun z hz=>h z (List.mem_cons_of_mem y hz)
  cases ht:zt H ss y with
  | none=>rw [qd0 (e.trans ht),qd0 ht]
  | some t=>rw [qc7 (e.trans ht),qc7 ht,qc8 (x:=x) k r _ hr]
theorem qb7 {p:Addr} {H H':Hp} {ss:List Str} {v:V} {o:Option (List V)} (h:Arg p H v o) (k:∀ b o,b≠p→H b=some o→H' b=some o):qed H' ss v o=qed H ss v o:=by
 cases o with
 | none=>rfl
 | some xs =>
  show (if _ then _ else (goT H' ss xs []).map _)=if _ then _ else (goT H ss xs []).map _
  rw [qc8 (x:=p) k xs [] h.few.2]
structure WOk (ss:List Str) (ns:List Nat):Prop where
 len:ns.length=ss.length
 few:ss.length≤14
 nd:ss.Nodup
 lt:∀ a,ns.getD a 0 < 2 ^ ss.length
 nm:∀ s∈ss,zy s=true
def WebAt (cw:Addr) (H:Hp) (x:Addr) (ss:List Str) (ns:List Nat):Prop:=∃ dx d ol n,H x=some (.ins cw dx (jF "near" (.ref n) (jF "order" (.ref ol) (jF "numbers" (.ref d) []))))∧H d=some (.dK (qal ss 0))∧H ol=some (.lst (ss.map V.str))∧H n=some (.lst (qam ns))∧WOk ss ns
theorem WebAt.same {cw x:Addr} {H H':Hp} {ss:List Str} {ns:List Nat} (h:WebAt cw H x ss ns) (s:L2.Same H H'):WebAt cw H' x ss ns:=by
 obtain ⟨dx,d,ol,n,h1,h2,h3,h4,h5⟩:=h
 exact ⟨dx,d,ol,n,s _ _ h1,s _ _ h2,s _ _ h3,s _ _ h4,h5⟩
def WebN (H0:Hp) (cw:Addr) (H:Hp) (x:Addr) (ss:List Str) (ns:List Nat):Prop:=∃ dx d ol n,H x=some (.ins cw dx (jF "near" (.ref n) (jF "order" (.ref ol) (jF "numbers" (.ref d) []))))∧H d=some (.dK (qal ss 0))∧H ol=some (.lst (ss.map V.str))∧H n=some (.lst (qam ns))∧WOk ss ns∧H0 d=none∧H0 ol=none∧H0 n=none
theorem WebN.web {H0:Hp} {cw x:Addr} {H:Hp} {ss:List Str} {ns:List Nat} (h:WebN H0 cw H x ss ns):WebAt cw H x ss ns:=by
 obtain ⟨dx,d,ol,n,h1,h2,h3,h4,h5,_⟩:=h
 exact ⟨dx,d,ol,n,h1,h2,h3,h4,h5⟩
def WebP (A:Addr→Prop) (cw:Addr) (H:Hp) (x:Addr) (ss:List Str) (ns:List Nat):Prop:=∃ dx d ol n,H x=some (.ins cw dx (jF "near" (.ref n) (jF "order" (.ref ol) (jF "numbers" (.ref d) []))))∧H d=some (.dK (qal ss 0))∧H ol=some (.lst (ss.map V.str))∧H n=some (.lst (qam ns))∧WOk ss ns∧¬ A x∧¬ A d∧¬ A ol∧¬ A n
theorem WebP.web {A:Addr→Prop} {cw x:Addr} {H:Hp} {ss:List Str} {ns:List Nat} (h:WebP A cw H x ss ns):WebAt cw H x ss ns:=by
 obtain ⟨dx,d,ol,n,h1,h2,h3,h4,h5,_⟩:=h
 exact ⟨dx,d,ol,n,h1,h2,h3,h4,h5⟩
theorem WebP.keep {A:Addr→Prop} {cw x:Addr} {H H':Hp} {ss:List Str} {ns:List Nat} (h:WebP A cw H x ss ns) (k:∀ b o,¬ A b→H b=some o→H' b=some o):WebP A cw H' x ss ns:=by
 obtain ⟨dx,d,ol,n,h1,h2,h3,h4,h5,a1,a2,a3,a4⟩:=h
 exact ⟨dx,d,ol,n,k _ _ a1 h1,k _ _ a2 h2,k _ _ a3 h3,k _ _ a4 h4,h5,a1,a2,a3,a4⟩
theorem WebN.apart {H0:Hp} {cw x:Addr} {H:Hp} {ss:List Str} {ns:List Nat} {A:Addr→Prop} (h:WebN H0 cw H x ss ns) (hx:¬ A x) (ha:∀ a,A a→H0 a≠none):WebP A cw H x ss ns:=by
 obtain ⟨dx,d,ol,n,h1,h2,h3,h4,h5,a2,a3,a4⟩:=h
 exact ⟨dx,d,ol,n,h1,h2,h3,h4,h5,hx,fun z=>ha _ z a2,fun z=>ha _ z a3,fun z=>ha _ z a4⟩
theorem qb8:∀ (ss:List Str) (i:Nat),(qal ss i).map (fun kv=>kV kv.1)=ss.map V.str
 | [],_=>rfl
 | s::r,i=>congrArg (V.str s::·) (qb8 r (i + 1))
def qdr (cc:Nat→Addr) (cw:Addr):Sp:=fun vs H Q E=>∃ (p x dx:Addr) (v:V) (o:Option (List V)) (v2:V) (o2:Option (List V)),vs=[.ref x,v,v2]∧H x=some (.ins cw dx [])∧Arg p H v o∧Arg p H v2 o2 ∧
 (∀ r,qeZ H v o v2 o2=some r→∀ dy H',But x H H'→H' dy=some (.xd [(qaE r.1,r.2)])→E (.ref (cc r.1)) (some dy) H')∧(qeZ H v o v2 o2=none→∀ ns H',But x H H'→WebN H cw H' x ((o.getD []).map qG) ns→jN ((o.getD []).map qG) ns ((o2.getD []).filterMap (zt H ((o.getD []).map qG)))→Q .non H')
theorem Arg.but {p x dx C:Addr} {H H':Hp} {v:V} {o:Option (List V)} {fs:List (Str×V)} (h:Arg p H v o) (hx:H x=some (.ins C dx fs)) (b:But x H H'):Arg p H' v o∧∀ ss,qed H' ss v o=qed H ss v o:=by
 have hth:∀ {n:Nat} {v:V},Th p H n v→Th p (fun a=>if a=x then none else H a) n v:=by
  intro n v h
  induction h with
  | flat f l=>exact .flat f l
  | lst e ne h l ih=>exact .lst (by rw [if_neg (qaG e hx (by intro z;cases z))];exact e) ne ih l
  | tup e ne h l ih=>exact .tup (by rw [if_neg (qaG e hx (by intro z;cases z))];exact e) ne ih l
  | dct e ne=>exact .dct (by rw [if_neg (qaG e hx (by intro z;cases z))];exact e) ne
 have h2:Arg p (fun a=>if a=x then none else H a) v o:=by
  cases h with
  | lst e ne h l=>exact .lst (by rw [if_neg (qaG e hx (by intro z;cases z))];exact e) ne (fun x hx=>hth (h x hx)) l
  | tup e ne h l=>exact .tup (by rw [if_neg (qaG e hx (by intro z;cases z))];exact e) ne (fun x hx=>hth (h x hx)) l
  | flat f l=>exact .flat f l
  | dct e ne=>exact .dct (by rw [if_neg (qaG e hx (by intro z;cases z))];exact e) ne
 have k1:L2.Same (fun a=>if a=x then none else H a) H':=fun c u e=>by
  have e:(if c=x then none else H c)=some u:=e
  by_cases hc:c=x
  ·rw [if_pos hc] at e;cases e
  ·rw [if_neg hc] at e;exact b c u hc e
 have k2:L2.Same (fun a=>if a=x then none else H a) H:=fun c u e=>by
  have e:(if c=x then none else H c)=some u:=e
  by_cases hc:c=x
  ·rw [if_pos hc] at e;cases e
  ·rw [if_neg hc] at e;exact e
 exact ⟨h2.same k1,fun ss=>(qb7 h2 fun b o _ e=>k1 b o e).trans (qb7 h2 fun b o _ e=>k2 b o e).symm⟩
theorem qc9 {α β:Type} {f g:α→Option β}:∀ {l:List α},(∀ x∈l,f x=g x)→l.filterMap f=l.filterMap g
 | [],_=>rfl
 | a::r,h=>by
  rw [List.filterMap_cons,List.filterMap_cons,h a List.mem_cons_self,qc9 fun x hx=>h x (List.mem_cons_of_mem _ hx)]
theorem Arg.tie_but {p x dx C:Addr} {H H':Hp} {v:V} {o:Option (List V)} {fs:List (Str×V)} (h:Arg p H v o) (hx:H x=some (.ins C dx fs)) (b:But x H H') (y:V) (hy:y∈o.getD []) (ss:List Str):zt H' ss y=zt H ss y:=by
 cases o with
 | none=>cases hy
 | some xs =>
  have hth:=h.few.2 y hy
  cases hth with
  | flat f l=>cases y<;>first | rfl | cases f
  | lst e ne h l=>rw [jH (H:=H') (fun a zs z y=>by (cases z;rw [b _ _ (qaG e hx (by intro z;cases z)) e] at y;cases y)),jH (H:=H) fun a zs z y=>by (cases z;rw [e] at y;cases y)]
  | tup e ne h l=>unfold zt;dsimp only;rw [b _ _ (qaG e hx (by intro z;cases z)) e,e]
  | dct e ne=>rw [jH (H:=H') (fun a zs z y=>by (cases z;rw [b _ _ (qaG e hx (by intro z;cases z)) e] at y;cases y)),jH (H:=H) fun a zs z y=>by (cases z;rw [e] at y;cases y)]
theorem ok_web {f:Addr} {fd:FuncData} (F:Fun K "__init__" "Web.__init__" jX f fd) (T:Txt K mg cc cw) (D_numbers_of:DefOk P w K mg base (CX1 P w) 4 "numbers_of" ["names"] (qeG cc)) (D_near_of:DefOk P w K mg base (CX1 P w) 4 "near_of" ["numbers", "ties"] (qeH cc)) :
  FnOk P w K mg base (CX1 P w) 5 f fd ["self", "names", "ties"] (qdr cc cw):=by
 refine F.ok1 sc_Web_init (fun vs H Q E h=>?_) fun cdv A outer s H vs Q E hr h=>?_
 ·obtain ⟨p,x,dx,v,o,v2,o2,rfl,_⟩:=h;rfl
 ·obtain ⟨p,x,dx,v,o,v2,o2,rfl,hx,ha,ha2,hz,q⟩:=h
  have hu:=zX hr
  refine ⟨_,(qd (zf (K:=K) rfl (pv 0) (zD D_numbers_of (hmR hr) qZ (qa (pv 1) qc)) rfl)
 (qd (zf (K:=K) rfl (pv 0) (zC (qcv (K:=K) rfl rfl) rfl T.b_list boot_list (qa (j3 (K:=K) rfl (pv 0) rfl) qc)) rfl)
 (qf (zf (K:=K) rfl (pv 0) (zD D_near_of (hmR hr) qZ (qa (j3 (K:=K) rfl (pv 0) rfl) (qa (pv 2) qc))) rfl)))),?_⟩
  walk_at "vc"
  refine ⟨p,v,o,rfl,ha,fun r e=>?_,fun hN d H1 s1 hd0 hd=>?_⟩
  ·intro dy H' s' hy
   exact hz r (by unfold qeZ;rw [e]) dy H' ((But.refl x H).same s') hy
  ·have hW:qeZ H v o v2 o2=qed H ((o.getD []).map qG) v2 o2:=by unfold qeZ;rw [hN]
   obtain ⟨xs,rfl,l14,_,allN,nd⟩:=outN_good hN
   rw [hW] at hz q
   have b1:=(But.refl x H).same s1
   have hx1:=s1 _ _ hx
   have ndx:d≠x:=qaG hd hx1 (by intro z;cases z)
   walk_at "vc"
   refine .inl ⟨x,cw,dx,[],rfl,hx1,T.wcl,T.wn,by decide,?_⟩
   have b2:=b1.put (o:=.ins cw dx (jF "numbers" (.ref d) []))
   have hd2:upd H1 x (.ins cw dx (jF "numbers" (.ref d) [])) d=some (.dK (qal (((some xs).getD []).map qG) 0)):=by rw [qi ndx];exact hd
   walk_at "vc"
   refine .inl ⟨x,cw,dx,_,.ref d,rfl,qb,T.wcl,T.wn,by rw [qz,if_pos rfl],?_⟩
   walk_at "vc"
   refine .inr (.inl ⟨d,_,rfl,hd2,fun ol ho=>?_⟩)
   have no:ol≠x:=fun e=>by subst e;rw [qb] at ho;cases ho
   have b3:=b2.new (o:=.lst ((qal (((some xs).getD []).map qG) 0).map fun kv=>kV kv.1)) ho
   have nol:ol≠d:=fun e=>by rw [e,hd2] at ho;cases ho
   walk_at "vc"
   refine .inl ⟨x,cw,dx,_,rfl,(by rw [qi no.symm];exact qb),T.wcl,T.wo,Nat.lt_of_le_of_lt (j0 _ _ _) (by decide),?_⟩
   have hd3:upd (upd (upd H1 x (.ins cw dx (jF "numbers" (.ref d) []))) ol (.lst ((qal (((some xs).getD []).map qG) 0).map fun kv=>kV kv.1))) x (.ins cw dx (jF "order" (.ref ol) (jF "numbers" (.ref d) []))) d=some (.dK (qal (((some xs).getD []).map qG) 0)):=by
    rw [qi ndx,qi (qx hd2 ho)];exact hd2
   have b4:=b3.put (o:=.ins cw dx (jF "order" (.ref ol) (jF "numbers" (.ref d) [])))
   walk_at "vc"
   refine .inl ⟨x,cw,dx,_,.ref d,rfl,qb,T.wcl,T.wn,by rw [qz,if_neg (by decide +kernel),qz,if_pos rfl],?_⟩
   walk_at "vc"
   obtain ⟨ha3,ho3⟩:=ha2.but hx b4
   refine ⟨p,d,_,v2,o2,rfl,hd3,by rw [List.length_map];exact l14,nd,ha3,fun r e=>?_,fun e n ns H2 s2 hn0 hn hbits=>?_⟩
   ·intro dy H' s' hy
    rw [ho3] at e
    exact hz r e dy H' (b4.same s') hy
   ·rw [ho3] at e
    have b5:=b4.same s2
    walk_at "vc"
    refine .inl ⟨x,cw,dx,_,rfl,s2 _ _ qb,T.wcl,T.wr,Nat.lt_of_le_of_lt (j0 _ _ _) (Nat.lt_of_le_of_lt (Nat.succ_le_succ (j0 _ _ _)) (by decide)),?_⟩
    have hx2:=s2 _ _ (qb:upd (upd (upd H1 x (.ins cw dx (jF "numbers" (.ref d) []))) ol (.lst ((qal (((some xs).getD []).map qG) 0).map fun kv=>kV kv.1))) x (.ins cw dx (jF "order" (.ref ol) (jF "numbers" (.ref d) []))) x=_)
    have nnx:n≠x:=qaG hn hx2 (by intro z;cases z)
    have hd4:=s2 _ _ hd3
    have ho4:H2 ol=some (.lst ((qal (((some xs).getD []).map qG) 0).map fun kv=>kV kv.1)):=s2 _ _ (by rw [qi no];exact qb)
    have eT:(((some xs).getD []).map qG)=(((some xs).getD []).map qG):=rfl
    have ebt:∀ y∈(o2.getD []),zt H (((some xs).getD []).map qG) y=zt (upd (upd (upd H1 x (.ins cw dx (jF "numbers" (.ref d) []))) ol (.lst ((qal (((some xs).getD []).map qG) 0).map fun kv=>kV kv.1))) x (.ins cw dx (jF "order" (.ref ol) (jF "numbers" (.ref d) [])))) (((some xs).getD []).map qG) y:=fun y hy=>?tie
    have hol0:H ol=none:=by
     cases q':H ol with
     | none=>rfl
     | some o'=>rw [b2 ol o' no q'] at ho;cases ho
    have hn00:H n=none:=by
     cases q':H n with
     | none=>rfl
     | some o'=>rw [b4 n o' nnx q'] at hn0;cases hn0
    refine q e ns _ b5.put ⟨dx,d,ol,n,qb,by rw [qi ndx];exact hd4,by rw [qi no,ho4,qb8],by rw [qi nnx];exact hn,⟨hbits.1,by show (xs.map qG).length≤14;rw [List.length_map];exact l14,nd,hbits.2.1,fun s hs=>by obtain ⟨y,hy,rfl⟩:=List.mem_map.mp hs;exact (jj (allN y hy)).2.1⟩,hd0,hol0,hn00⟩ ?_
    ·have:(o2.getD []).filterMap (zt H (((some xs).getD []).map qG))=(o2.getD []).filterMap (zt (upd (upd (upd H1 x (.ins cw dx (jF "numbers" (.ref d) []))) ol (.lst ((qal (((some xs).getD []).map qG) 0).map fun kv=>kV kv.1))) x (.ins cw dx (jF "order" (.ref ol) (jF "numbers" (.ref d) [])))) (((some xs).getD []).map qG)):=qc9 ebt
     rw [this]
     exact hbits
    case tie=>exact (ha2.tie_but hx b4 y hy _).symm
end
abbrev qV:Stmt:=ji (top 22) 4
theorem sc_Web_has_place:FnScope ["self", "thing"] ["self", "thing"] (qe qV):=⟨rfl,rfl,rfl,by decide +kernel,rfl,by decide +kernel,by decide +kernel⟩
abbrev qW:Stmt:=ji (top 22) 6
theorem sc_Web_number_of:FnScope ["self", "place"] ["self", "place"] (qe qW):=⟨rfl,rfl,rfl,by decide +kernel,rfl,by decide +kernel,by decide +kernel⟩
abbrev jy:Stmt:=ji (top 22) 7
theorem sc_Web_beside:FnScope ["self", "place"] ["self", "place"] (qe jy):=⟨rfl,rfl,rfl,by decide +kernel,rfl,by decide +kernel,by decide +kernel⟩
abbrev qI:Stmt:=ji (top 22) 8
theorem sc_Web_bits_beside:FnScope ["self", "place"] ["self", "place"] (qe qI):=⟨rfl,rfl,rfl,by decide +kernel,rfl,by decide +kernel,by decide +kernel⟩
abbrev qS:Stmt:=ji (top 22) 12
theorem sc_Web_names_in:FnScope ["self", "bits"] ["self", "bits"] (qe qS):=⟨rfl,rfl,rfl,by decide +kernel,rfl,by decide +kernel,by decide +kernel⟩
theorem jY {d ol n:V}:(jF "near" n (jF "order" ol (jF "numbers" d []))).lookup ("numbers":Str)=some d:=by
 rw [qz,if_neg (by decide +kernel),qz,if_neg (by decide +kernel),qz,if_pos rfl]
theorem qaO {d ol n:V}:(jF "near" n (jF "order" ol (jF "numbers" d []))).lookup ("order":Str)=some ol:=by
 rw [qz,if_neg (by decide +kernel),qz,if_pos rfl]
theorem qd1 {d ol n:V}:(jF "near" n (jF "order" ol (jF "numbers" d []))).lookup ("near":Str)=some n:=by
 rw [qz,if_pos rfl]
theorem qba {f:Str} {d ol n:V} (h:(f=="near"||f=="order"||f=="numbers")=false):(jF "near" n (jF "order" ol (jF "numbers" d []))).lookup f=none:=by
 simp only [Bool.or_eq_false_iff,beq_eq_false_iff_ne] at h
 rw [qz,if_neg h.1.1,qz,if_neg h.1.2,qz,if_neg h.2]
 rfl
theorem place_ix {ss:List Str} {v:V} (h:qw ss v=true):v=.str (qG v)∧∃ j,j < ss.length∧ss[j]?=some (qG v)∧zL (qal ss 0) (.inr (qG v):Key)=some (.int (j:Nat)):=by
 obtain ⟨n1,m1⟩:=j6 h
 obtain ⟨e1,_,_⟩:=jj n1
 obtain ⟨j,hj,gj,vj⟩:=jM (i:=0) m1
 rw [Nat.zero_add] at vj
 exact ⟨e1,j,hj,gj,vj⟩
def inB:List Str→Nat→Nat→List Str
 | [],_,_=>[]
 | s::r,i,b=>if b.testBit i=true then s::inB r (i + 1) b else inB r (i + 1) b
theorem qaP (y:Str) (b:Nat):∀ (l:List Str) (k:Nat),inB (l++[y]) k b=inB l k b++(if b.testBit (k + l.length)=true then [y] else [])
 | [],k=>by simp [inB]
 | s::r,k=>by
  have ih:=qaP y b r (k + 1)
  have e:k + 1 + r.length=k + (s::r).length:=by simp;omega
  rw [e] at ih
  simp only [List.cons_append,inB,ih]
  split<;>simp
theorem qbw (b:Nat):∀ (l:List Str) (k:Nat),(inB l k b).length≤l.length
 | [],_=>Nat.le_refl _
 | s::r,k=>by
  have ih:=qbw b r (k + 1)
  simp only [inB]
  split
  ·simp;omega
  ·simp;omega
def qe0 (cw:Addr):Sp:=fun vs H Q _=>∃ (p:Addr) (k:Nat) (x:Addr) (ss:List Str) (ns:List Nat) (v:V),vs=[.ref x,v]∧WebAt cw H x ss ns∧Th p H k v∧∀ H',L2.Same H H'→Q (.bl (qw ss v)) H'
def qe1 (cc:Nat→Addr) (cw:Addr):Sp:=fun vs H Q E=>∃ (p:Addr) (k:Nat) (x:Addr) (ss:List Str) (ns:List Nat) (v:V),vs=[.ref x,v]∧WebAt cw H x ss ns∧Th p H k v∧(qw ss v=false→Rz cc H E (2,v)) ∧
 ∀ j,ss[j]?=some (qG v)→qw ss v=true→∀ H',L2.Same H H'→Q (.int (j:Nat)) H'
def qgy (cc:Nat→Addr) (cw:Addr):Sp:=fun vs H Q E=>∃ (p:Addr) (k:Nat) (x:Addr) (ss:List Str) (ns:List Nat) (v:V),vs=[.ref x,v]∧WebAt cw H x ss ns∧Th p H k v∧(qw ss v=false→Rz cc H E (2,v)) ∧
 ∀ j,ss[j]?=some (qG v)→qw ss v=true→∀ H',L2.Same H H'→Q (.int (ns.getD j 0:Nat)) H'
def qe2 (cw:Addr):Sp:=fun vs H Q _=>∃ (x:Addr) (ss:List Str) (ns:List Nat) (b:Nat),vs=[.ref x,.int b]∧WebAt cw H x ss ns∧∀ l,H l=none→Q (.ref l) (upd H l (.lst ((inB ss 0 b).map V.str)))
def qgz (cc:Nat→Addr) (cw:Addr):Sp:=fun vs H Q E=>∃ (p:Addr) (k:Nat) (x:Addr) (ss:List Str) (ns:List Nat) (v:V),vs=[.ref x,v]∧WebAt cw H x ss ns∧Th p H k v∧(qw ss v=false→Rz cc H E (2,v)) ∧
 ∀ j,ss[j]?=some (qG v)→qw ss v=true→∀ H',L2.Same H H'→∀ l,H' l=none→Q (.ref l) (upd H' l (.lst ((inB ss 0 (ns.getD j 0)).map V.str)))
section
variable {P:Program} {w:World} {K:W.Frag} {mg:Str→Option Value} {base:Heap} {cc:Nat→Addr} {cw:Addr}
theorem ok_has {f:Addr} {fd:FuncData} (F:Fun K "has_place" "Web.has_place" qV f fd) (T:Txt K mg cc cw) (D_is_place:DefOk P w K mg base CX0 2 "is_place" ["numbers", "thing"] qcy):FnOk P w K mg base CX0 3 f fd ["self", "thing"] (qe0 cw):=by
 refine F.ok sc_Web_has_place (fun vs H Q E h=>?_) fun cdv A outer s H vs Q E hr h=>?_
 ·obtain ⟨p,k,x,ss,ns,v,rfl,_⟩:=h;rfl
 ·obtain ⟨p,k,x,ss,ns,v,rfl,⟨dx,d,ol,n,hx,hd,ho,hn,hw⟩,hv,q⟩:=h
  refine ⟨_,(qf (qq (qu D_is_place (hmR hr) qC (qa (j3 (K:=K) rfl (pv 0) rfl) (qa (pv 1) qc))))),?_⟩
  walk_at "vc"
  refine .inl ⟨x,cw,dx,_,.ref d,rfl,hx,T.wcl,T.wn,jY,?_⟩
  walk_at "vc"
  exact ⟨p,k,d,ss,v,rfl,hd,hv,q⟩
theorem ok_num {f:Addr} {fd:FuncData} (F:Fun K "number_of" "Web.number_of" qW f fd) (T:Txt K mg cc cw) (D_Web_has_place:MethOk P w K mg base CX0 3 cw "has_place" ["self", "thing"] (qe0 cw))
  (D_NoPlace:XMakeOk P w K mg base 2 (cc 2) "NoPlace" ["self", "found"] (spX (cc 2) (qaE 2))):FnOk P w K mg base (CX1 P w) 4 f fd ["self", "place"] (qe1 cc cw):=by
 refine F.ok1 sc_Web_number_of (fun vs H Q E h=>?_) fun cdv A outer s H vs Q E hr h=>?_
 ·obtain ⟨p,k,x,ss,ns,v,rfl,_⟩:=h;rfl
 ·obtain ⟨p,k,x,ss,ns,v,rfl,hW,hv,hz,q⟩:=h
  have hu:=zX hr
  obtain ⟨dx,d,ol,n,hx,hd,ho,hn,hw⟩:=id hW
  refine ⟨_,(qd (jf (jK (jr (zM D_Web_has_place (hmR hr) (pv 0) (qa (pv 1) qc)))) (qf (j4 (K:=K) rfl qZ (qa3 D_NoPlace (hmR hr) (qa (pv 1) qc)))) qv)
 (qf (qq (qD (qE (K:=K) rfl hu) (j3 (K:=K) rfl (pv 0) rfl) (pv 1) (fun _ _=>rfl))))),?_⟩
  walk_at "vc"
  refine ⟨x,dx,_,rfl,hx,qba (by decide +kernel),?_⟩
  walk_at "vc"
  refine ⟨p,k,x,ss,ns,v,rfl,hW,hv,fun H1 s1=>?_⟩
  walk_at "vc"
  refine jk (fun h=>?_) fun h=>?_
  ·walk_at "vc"
   exact qU (T.xat 2 (by decide)) ((hz (by simpa using h)).later s1)
  ·have hp:qw ss v=true:=by simpa using h
   obtain ⟨ev,j,hj,gj,vj⟩:=place_ix hp
   walk_at "vc"
   refine .inl ⟨x,cw,dx,_,.ref d,rfl,s1 _ _ hx,T.wcl,T.wn,jY,?_⟩
   walk_at "vc"
   refine .inr ⟨d,.int j,rfl,?_,q j gj hp H1 s1⟩
   have:=DGet.k (k:=Sum.inr (qG v)) (s1 _ _ hd)
   rw [vj] at this
   rw [ev]
   exact this
theorem ok_bb {f:Addr} {fd:FuncData} (F:Fun K "bits_beside" "Web.bits_beside" qI f fd) (T:Txt K mg cc cw) (D_Web_number_of:MethOk P w K mg base (CX1 P w) 4 cw "number_of" ["self", "place"] (qe1 cc cw)):FnOk P w K mg base (CX1 P w) 5 f fd ["self", "place"] (qgy cc cw):=by
 refine F.ok1 sc_Web_bits_beside (fun vs H Q E h=>?_) fun cdv A outer s H vs Q E hr h=>?_
 ·obtain ⟨p,k,x,ss,ns,v,rfl,_⟩:=h;rfl
 ·obtain ⟨p,k,x,ss,ns,v,rfl,hW,hv,hz,q⟩:=h
  have hu:=zX hr
  obtain ⟨dx,d,ol,n,hx,hd,ho,hn,hw⟩:=id hW
  refine ⟨_,(qf (qq (qD (qE (K:=K) rfl hu) (j3 (K:=K) rfl (pv 0) rfl) (qaM D_Web_number_of (hmR hr) qZ (pv 0) (qa (pv 1) qc)) (fun _ _=>rfl)))),?_⟩
  walk_at "vc"
  refine .inl ⟨x,cw,dx,_,.ref n,rfl,hx,T.wcl,T.wr,qd1,?_⟩
  walk_at "vc"
  refine ⟨x,dx,_,rfl,hx,qba (by decide +kernel),?_⟩
  walk_at "vc"
  refine ⟨p,k,x,ss,ns,v,rfl,hW,hv,hz,fun j gj hp H1 s1=>?_⟩
  exact .inl (zZ (s1 _ _ hn) (qH (zd (by rw [hw.len];exact (List.getElem?_eq_some_iff.mp gj).1))) (q j gj hp H1 s1))
theorem ok_nin {f:Addr} {fd:FuncData} (F:Fun K "names_in" "Web.names_in" qS f fd) (T:Txt K mg cc cw) (D_has_bit:DefOk P w K mg base CX0 1 "has_bit" ["bits", "number"] qdZ):FnOk P w K mg base CX0 2 f fd ["self", "bits"] (qe2 cw):=by
 refine F.ok sc_Web_names_in (fun vs H Q E h=>?_) fun cdv A outer s H vs Q E hr h=>?_
 ·obtain ⟨x,ss,ns,b,rfl,_⟩:=h;rfl
 ·obtain ⟨x,ss,ns,b,rfl,⟨dx,d,ol,n,hx,hd,ho,hn,hw⟩,q⟩:=h
  have hu:=zX hr
  refine ⟨_,(qf (qq (j2 (sc:=qe qS) (XN:=["self", "bits"]) ["name", "bits", "self"] 1 [1,0] rfl rfl rfl (by decide +kernel) rfl (by decide +kernel)
  (jo (K:=K) rfl (j3 (K:=K) rfl (pv 0) rfl)) (fun _ _ _ _=>(qr (i:=0) (show (["name", "bits", "self"]:List Str).Nodup by decide +kernel) rfl (Or.inl rfl))) jg
  (fun _ _ _ _=>(jD (jr (qu D_has_bit (hmR hr) qC (qa (pv 1) (qa (qD (qE (K:=K) rfl hu) (j3 (K:=K) rfl (pv 2) rfl) (pv 0) (fun _ _=>rfl)) qc))))))
  (fun _ _ _ _=>(pv 0))))),?_⟩
  walk_at "vc"
  refine .inl ⟨x,cw,dx,_,.ref ol,rfl,hx,T.wcl,T.wo,qaO,?_⟩
  refine .inl ⟨⟨_,SqL.of ho⟩,jm (K:=K) (fun i ys H'=>H'=H∧ys=(inB (ss.take i) 0 b).map V.str) ⟨rfl,by simp [inB]⟩ (fun i ys H' _ hp=>by rw [hp.1];exact SqL.of ho) (fun i y ys H' hy hp=>?_) fun ys H' hp=>?_⟩
  ·obtain ⟨rfl,rfl⟩:=hp
   have hi:i < ss.length:=by simpa using (List.getElem?_eq_some_iff.mp hy).1
   have gi:ss[i]?=some ss[i]:=List.getElem?_eq_getElem hi
   generalize ss[i]=sy at gi
   have ey:y=.str sy:=by rw [List.getElem?_map,gi] at hy;cases hy;rfl
   subst ey
   obtain ⟨j,hj,gj,vj⟩:=jM (i:=0) (List.mem_of_getElem? gi)
   rw [Nat.zero_add] at vj
   have hji:j=i:=qA hw.nd gj gi
   subst hji
   have htk:ss.take (j + 1)=ss.take j++[sy]:=by rw [List.take_add_one,gi];rfl
   have hln:(ss.take j).length=j:=by rw [List.length_take];omega
   walk_at "vc"
   refine .inl ⟨x,cw,dx,_,.ref d,rfl,hx,T.wcl,T.wn,jY,?_⟩
   walk_at "vc"
   refine .inr ⟨d,.int j,rfl,?_,?_⟩
   ·have:=DGet.k (k:=Sum.inr sy) hd
    rw [vj] at this
    exact this
   walk_at "vc"
   refine ⟨_,_,rfl,by omega,?_⟩
   rw [qa9]
   walk_at "vc"
   have few:((inB (ss.take j) 0 b).map V.str).length < sizeLine:=by
    rw [List.length_map]
    exact qh (Nat.le_trans (qbw _ _ _) (by rw [hln];have:=hw.few;omega))
   refine jk (fun hb=>?_) fun hb=>?_
   ·walk_at "vc"
    refine ⟨few,rfl,?_⟩
    rw [htk,qaP,hln,Nat.zero_add,if_pos hb]
    simp
   ·refine ⟨rfl,?_⟩
    rw [htk,qaP,hln,Nat.zero_add,if_neg hb]
    simp
  ·obtain ⟨rfl,rfl⟩:=hp
   have etk:ss.take (ss.map V.str).length=ss:=by rw [List.length_map,List.take_length]
   rw [etk]
   refine ⟨?_,fun l hl=>q l hl⟩
   rw [List.length_map]
   exact Nat.le_of_lt (qh (Nat.le_trans (qbw _ _ _) (by have:=hw.few;omega)))
theorem ok_bs {f:Addr} {fd:FuncData} (F:Fun K "beside" "Web.beside" jy f fd) (T:Txt K mg cc cw) (D_Web_bits_beside:MethOk P w K mg base (CX1 P w) 5 cw "bits_beside" ["self", "place"] (qgy cc cw)) (D_Web_names_in:MethOk P w K mg base CX0 2 cw "names_in" ["self", "bits"] (qe2 cw)):FnOk P w K mg base (CX1 P w) 6 f fd ["self", "place"] (qgz cc cw):=by
 refine F.ok1 sc_Web_beside (fun vs H Q E h=>?_) fun cdv A outer s H vs Q E hr h=>?_
 ·obtain ⟨p,k,x,ss,ns,v,rfl,_⟩:=h;rfl
 ·obtain ⟨p,k,x,ss,ns,v,rfl,hW,hv,hz,q⟩:=h
  obtain ⟨dx,d,ol,n,hx,hd,ho,hn,hw⟩:=id hW
  refine ⟨_,(qf (qq (zM D_Web_names_in (hmR hr) (pv 0) (qa (qaM D_Web_bits_beside (hmR hr) qZ (pv 0) (qa (pv 1) qc)) qc)))),?_⟩
  walk_at "vc"
  refine ⟨x,dx,_,rfl,hx,qba (by decide +kernel),?_⟩
  walk_at "vc"
  refine ⟨x,dx,_,rfl,hx,qba (by decide +kernel),?_⟩
  walk_at "vc"
  refine ⟨p,k,x,ss,ns,v,rfl,hW,hv,hz,fun j gj hp H1 s1=>?_⟩
  walk_at "vc"
  exact ⟨x,ss,ns,_,rfl,hW.same s1,q j gj hp H1 s1⟩
end
abbrev jz:Stmt:=ji (top 22) 10
theorem sc_Web_pieces:FnScope ["self", "pieces", "seen", "number", "piece"] ["self"] (qe jz):=⟨rfl,rfl,rfl,by decide +kernel,rfl,by decide +kernel,by decide +kernel⟩
abbrev je:Stmt:=top 28
theorem sc_piece_around:FnScope ["near", "number", "piece", "before", "at", "bits"] ["near", "number"] (qe je):=⟨rfl,rfl,rfl,by decide +kernel,rfl,by decide +kernel,by decide +kernel⟩
theorem qcA (m k:Nat):Builtin.bitOr (m:Int) (k:Int)=((m ||| k:Nat):Int):=by
 have n1:Builtin.bitNot (m:Int)=-(m:Int) - 1:=rfl
 have n2:Builtin.bitNot (k:Int)=-(k:Int) - 1:=rfl
 unfold Builtin.bitOr Builtin.bitAnd
 rw [n1,n2,decide_eq_false (by omega),decide_eq_false (by omega)]
 dsimp only
 unfold Builtin.bitNot
 have e1:(-(-(m:Int) - 1) - 1).toNat=m:=by omega
 have e2:(-(-(k:Int) - 1) - 1).toNat=k:=by omega
 rw [e1,e2]
 omega
theorem qcB (j:Nat):(1 * 2 ^ (j:Int).toNat:Int)=((2 ^ j:Nat):Int):=by rw [Int.toNat_natCast,Int.one_mul,Int.natCast_pow];rfl
inductive Rch (ns:List Nat) (i:Nat):Nat→Prop
 | base:Rch ns i i
 | step {a b:Nat} (h:Rch ns i a) (t:(ns.getD a 0).testBit b=true):Rch ns i b
theorem Rch.trans {ns:List Nat} {i a b:Nat} (h:Rch ns i a) (g:Rch ns a b):Rch ns i b:=by
 induction g with
 | base=>exact h
 | step _ t ih=>exact .step ih t
def qgA:Sp:=fun vs H Q _=>∃ (n:Addr) (ns:List Nat) (i:Nat),vs=[.ref n,.int i]∧H n=some (.lst (qam ns))∧i < ns.length∧ns.length≤14∧(∀ a,ns.getD a 0 < 2 ^ ns.length) ∧
 ∀ (b:Nat) (H':Hp),L2.Same H H'→(∀ c,b.testBit c=true↔Rch ns i c)→Q (.int b) H'
structure All2 {α β:Type} (R:α→β→Prop) (l:List α) (m:List β):Prop where
 len:l.length=m.length
 at_:∀ (k:Nat) a b,l[k]?=some a→m[k]?=some b→R a b
theorem All2.nil {α β:Type} {R:α→β→Prop}:All2 R [] []:=⟨rfl,fun k a b h=>by simp at h⟩
theorem All2.mono {α β:Type} {R S:α→β→Prop} {l:List α} {m:List β} (h:All2 R l m) (f:∀ a b,R a b→S a b):All2 S l m:=⟨h.len,fun k a b x y=>f a b (h.at_ k a b x y)⟩
theorem All2.snoc {α β:Type} {R:α→β→Prop} {l:List α} {m:List β} {x:α} {y:β} (h:All2 R l m) (r:R x y):All2 R (l++[x]) (m++[y]):=by
 refine ⟨by rw [List.length_append,List.length_append,h.len];rfl,fun k a b ha hb=>?_⟩
 by_cases hk:k < l.length
 ·rw [List.getElem?_append_left hk] at ha
  rw [List.getElem?_append_left (by rw [← h.len];exact hk)] at hb
  exact h.at_ k a b ha hb
 ·rw [List.getElem?_append_right (by omega)] at ha
  rw [List.getElem?_append_right (by rw [← h.len];omega)] at hb
  have h0:k - l.length=0:=by
   have:=(List.getElem?_eq_some_iff.mp ha).1
   simp at this
   omega
  rw [← h.len] at hb
  rw [h0] at ha hb
  cases ha
  cases hb
  exact r
theorem All2.mem {α β:Type} {R:α→β→Prop} {l:List α} {m:List β} (h:All2 R l m) {x:α} (hx:x∈l):∃ y∈m,R x y:=by
 obtain ⟨k,hk,e⟩:=List.getElem_of_mem hx
 have hk':k < m.length:=by rw [← h.len];exact hk
 exact ⟨m[k],List.getElem_mem hk',h.at_ k x m[k] (by rw [List.getElem?_eq_getElem hk,e]) (List.getElem?_eq_getElem hk')⟩
noncomputable def qcC (ns:List Nat) (k:Nat):Bool:=@decide (∀ j,j < k→¬ Rch ns j k) (Classical.propDecidable _)
theorem isRep_iff {ns:List Nat} {k:Nat}:qcC ns k=true↔∀ j,j < k→¬ Rch ns j k:=by unfold qcC;exact @decide_eq_true_iff _ (Classical.propDecidable _)
noncomputable def qbC (ns:List Nat) (n:Nat):List Nat:=(List.range n).filter (qcC ns)
open Classical in
noncomputable def zY (ss:List Str) (ns:List Nat) (k:Nat):List Str:=ss.filter fun s=>decide (Rch ns k (ss.idxOf s))
theorem qeI {ss:List Str} (hn:ss.Nodup) {i:Nat} {s:Str} (h:ss[i]?=some s):ss.idxOf s=i:=by
 have hm:s∈ss:=List.mem_of_getElem? h
 have hl:ss.idxOf s < ss.length:=List.idxOf_lt_length_of_mem hm
 exact qA hn (by rw [List.getElem?_eq_getElem hl,List.getElem_idxOf]) h
theorem qay {ss:List Str} (hn:ss.Nodup) (b:Nat):inB ss 0 b=ss.filter fun s=>b.testBit (ss.idxOf s):=by
 have key:∀ k,k≤ss.length→inB (ss.take k) 0 b=(ss.take k).filter fun s=>b.testBit (ss.idxOf s):=fun k=>by
  induction k with
  | zero=>intro _;simp [inB]
  | succ k ih =>
   intro hk
   have gk:ss[k]?=some ss[k]:=List.getElem?_eq_getElem (by omega)
   generalize ss[k]=sk at gk
   have htk:ss.take (k + 1)=ss.take k++[sk]:=by rw [List.take_add_one,gk];rfl
   have hln:(ss.take k).length=k:=by rw [List.length_take];omega
   rw [htk,qaP,List.filter_append,ih (by omega),hln,Nat.zero_add]
   congr 1
   rw [List.filter_cons,List.filter_nil,qeI hn gk]
 have:=key ss.length (Nat.le_refl _)
 rwa [List.take_length] at this
theorem comp_of {ss:List Str} {ns:List Nat} (hn:ss.Nodup) {b k:Nat} (h:∀ c,b.testBit c=true↔Rch ns k c):inB ss 0 b=zY ss ns k:=by
 rw [qay hn]
 unfold zY
 apply List.filter_congr
 intro s _
 rw [Bool.eq_iff_iff,h]
 simp
def qfz (H H':Hp) (l:Addr) (a:Addr) (ps:List Str):Prop:=H a=none∧a≠l∧H' a=some (.lst (ps.map V.str))
def qe3 (cw:Addr):Sp:=fun vs H Q _=>∃ (x:Addr) (ss:List Str) (ns:List Nat),vs=[.ref x]∧WebAt cw H x ss ns ∧
 ∀ (l:Addr) (ls:List Addr) (H':Hp),L2.Same H H'→H l=none→H' l=some (.lst (ls.map V.ref))→All2 (qfz H H' l) ls ((qbC ns ss.length).map (zY ss ns))→Q (.ref l) H'
section
variable {P:Program} {w:World} {K:W.Frag} {mg:Str→Option Value} {base:Heap} {cc:Nat→Addr} {cw:Addr}
theorem ok_pc {f:Addr} {fd:FuncData} (F:Fun K "piece_around" "piece_around" je f fd) (T:Txt K mg cc cw) (D_has_bit:DefOk P w K mg base CX0 1 "has_bit" ["bits", "number"] qdZ):FnOk P w K mg base CX0 2 f fd ["near", "number"] qgA:=by
 refine F.ok sc_piece_around (fun vs H Q E h=>?_) fun cdv A outer s H vs Q E hr h=>?_
 ·obtain ⟨n,ns,i,rfl,_⟩:=h;rfl
 ·obtain ⟨n,ns,i,rfl,hn,hi,h14,hlt,q⟩:=h
  have hu:=zX hr
  refine ⟨_,(qd (qo (i:=2) sc_piece_around.nd rfl (Or.inl rfl) (qp qaV qg (pv 1)))
 (qd (qo (i:=3) sc_piece_around.nd rfl (Or.inl rfl) qg)
 (qd (qcL PassesOwn.never (qt (qbZ (K:=K) rfl hu) (pv 3) (pv 2) (qB _))
 (qd (qo (i:=3) sc_piece_around.nd rfl (Or.inl rfl) (pv 2))
 (qf (jt PassesOwn.never rfl (pi_enum (K:=K) rfl rfl T.b_enumerate (qa (pv 0) qc)) (qdx rfl (zJ (qr (i:=4) sc_piece_around.nd rfl (Or.inl rfl)) (zJ (qr (i:=5) sc_piece_around.nd rfl (Or.inl rfl)) qcn)))
 (qf (jf (jr (qu D_has_bit (hmR hr) qC (qa (pv 3) (qa (pv 4) qc)))) (qf (qo (i:=2) sc_piece_around.nd rfl (Or.inl rfl) (qp qcp (pv 2) (pv 5)))) qv))))))
 (qf (qq (pv 2)))))),?_⟩
  walk_at "vc"
  refine vI ⟨by omega,by omega,by decide⟩ ?_
  walk_at "vc"
  rw [qcB]
  have two:∀ c,(2 ^ i:Nat).testBit c=decide (i=c):=fun c=>Nat.testBit_two_pow
  refine ⟨fun m σ H'=>∃ (pc bf:Nat) (x4 x5:Option V),m=2 ^ ns.length - bf∧σ=[some (.ref n),some (.int i),some (.int pc),some (.int bf),x4,x5]∧L2.Same H H'∧bf ||| pc=pc∧pc < 2 ^ ns.length∧pc.testBit i=true∧(∀ c,pc.testBit c=true→Rch ns i c)∧∀ a c,bf.testBit a=true→(ns.getD a 0).testBit c=true→pc.testBit c=true,
   ⟨_,2 ^ i,0,none,none,rfl,rfl,L2.Same.refl H,by simp,Nat.pow_lt_pow_right (by decide) hi,by rw [two];simp,fun c hc=>by rw [two] at hc;rw [← of_decide_eq_true hc];exact .base,fun a c ha=>by simp at ha⟩,fun m σ H1 hW=>?_⟩
  obtain ⟨pc,bf,x4,x5,rfl,rfl,s1,hsub,hpl,hpi,hrch,hclo⟩:=hW
  walk_at "vc"
  refine .inl ⟨rfl,rfl,?_⟩
  walk_at "vc"
  refine jk (fun hne=>?_) fun heq=>?_
  ·have hne':bf≠pc:=fun e=>by
    subst e
    simp [eqV] at hne
   have hbl:bf < pc:=by
    have h1:bf≤bf ||| pc:=Nat.left_le_or
    rw [hsub] at h1
    omega
   refine ⟨fun σ' H'=>∃ (pk:Nat) (x4 x5:Option V),σ'=[some (.ref n),some (.int i),some (.int pk),some (.int pc),x4,x5]∧L2.Same H H'∧pc ||| pk=pk∧pk < 2 ^ ns.length∧pk.testBit i=true∧(∀ c,pk.testBit c=true→Rch ns i c)∧∀ a c,pc.testBit a=true→(ns.getD a 0).testBit c=true→pk.testBit c=true,
    fun σ' H' hN=>?_,?_⟩
   ·obtain ⟨pk,x4,x5,rfl,k1,k2,k3,k4,k5,k6⟩:=hN
    exact ⟨2 ^ ns.length - pc,by omega,pk,pc,x4,x5,rfl,rfl,k1,k2,k3,k4,k5,k6⟩
   ·walk_at "vc"
    refine ⟨n,qam ns,rfl,SqL.of (s1 _ _ hn),for_enum (K:=K) (fun k σ H'=>∃ (pk:Nat) (x4 x5:Option V),σ=[some (.ref n),some (.int i),some (.int pk),some (.int pc),x4,x5]∧L2.Same H H'∧pc ||| pk=pk∧pk < 2 ^ ns.length∧(∀ c,pk.testBit c=true→Rch ns i c)∧∀ a c,a < k→pc.testBit a=true→(ns.getD a 0).testBit c=true→pk.testBit c=true)
     ⟨pc,_,_,rfl,s1,by simp,hpl,hrch,fun a c h=>by omega⟩ (fun k σ H' _ hp=>by obtain ⟨_,_,_,_,z,_⟩:=hp;exact SqL.of (z _ _ hn)) (fun k y t σ H2 hy ht hp=>?_) fun σ H2 hp=>?_⟩
    ·obtain ⟨pk,x4,x5,rfl,s2,hs2,hl2,hr2,hc2⟩:=hp
     have s3:=qY s2 (o:=.tup [.int k,y]) ht
     have hkl:k < ns.length:=by have:=(List.getElem?_eq_some_iff.mp hy).1;unfold qam at this;simpa using this
     have ey:y=.int (ns.getD k 0:Nat):=by rw [zd hkl] at hy;cases hy;rfl
     refine ⟨t,_,rfl,SqT.of qb,rfl,_,_,rfl,_,_,rfl,rfl,?_⟩
     subst ey
     walk_at "vc"
     refine ⟨_,_,rfl,by omega,?_⟩
     rw [qa9]
     walk_at "vc"
     refine jk (fun hb=>?_) fun hb=>?_
     ·walk_at "vc"
      rw [qcA]
      refine ⟨pk ||| ns.getD k 0,_,_,rfl,s3,by rw [← Nat.or_assoc,hs2],Nat.or_lt_two_pow hl2 (hlt k),fun c hc=>?_,fun a c ha h1 h2=>?_⟩
      ·rw [Nat.testBit_or,Bool.or_eq_true] at hc
       rcases hc with hc | hc
       ·exact hr2 c hc
       ·exact .step (hrch k hb) hc
      ·rw [Nat.testBit_or,Bool.or_eq_true]
       by_cases hak:a=k
       ·subst hak;exact .inr h2
       ·exact .inl (hc2 a c (by omega) h1 h2)
     ·refine ⟨pk,_,_,rfl,s3,hs2,hl2,hr2,fun a c ha h1 h2=>?_⟩
      by_cases hak:a=k
      ·subst hak;exact absurd h1 hb
      ·exact hc2 a c (by omega) h1 h2
    ·obtain ⟨pk,x4,x5,rfl,s2,hs2,hl2,hr2,hc2⟩:=hp
     refine ⟨pk,x4,x5,rfl,s2,hs2,hl2,by rw [← hs2,Nat.testBit_or,hpi];rfl,hr2,fun a c h1 h2=>hc2 a c ?_ h1 h2⟩
     have hla:a < ns.length:=by
      refine Nat.lt_of_not_le fun hge=>?_
      have:pc.testBit a=false:=Nat.testBit_lt_two_pow (Nat.lt_of_lt_of_le hpl (Nat.pow_le_pow_right (by decide) hge))
      rw [this] at h1
      cases h1
     unfold qam
     rw [List.length_map]
     exact hla
  ·have he:bf=pc:=by
    simp only [if_true,eqV,Bool.not_eq_true',Bool.not_eq_false'] at heq
    have:((bf:Int)==(pc:Int))=true:=by simpa using heq
    have:=eq_of_beq this
    omega
   subst he
   walk_at "vc"
   refine q bf H1 s1 fun c=>⟨hrch c,fun hc=>?_⟩
   induction hc with
   | base=>exact hpi
   | step _ t ih=>exact hclo _ _ ih t
theorem qb9 (ns:List Nat) (k:Nat):((∃ j,j < k∧Rch ns j k)→qbC ns (k + 1)=qbC ns k)∧((¬ ∃ j,j < k∧Rch ns j k)→qbC ns (k + 1)=qbC ns k++[k]):=by
 unfold qbC
 rw [List.range_succ,List.filter_append]
 constructor
 ·rintro ⟨j,hj,hr⟩
  have e:qcC ns k=false:=by
   rw [Bool.eq_false_iff]
   intro h
   exact isRep_iff.mp h j hj hr
  simp [e]
 ·intro h
  have e:qcC ns k=true:=isRep_iff.mpr fun j hj hr=>h ⟨j,hj,hr⟩
  simp [e]
theorem ok_pcs {f:Addr} {fd:FuncData} (F:Fun K "pieces" "Web.pieces" jz f fd) (T:Txt K mg cc cw) (D_has_bit:DefOk P w K mg base CX0 1 "has_bit" ["bits", "number"] qdZ) (D_piece_around:DefOk P w K mg base CX0 2 "piece_around" ["near", "number"] qgA)
  (D_Web_names_in:MethOk P w K mg base CX0 2 cw "names_in" ["self", "bits"] (qe2 cw)):FnOk P w K mg base CX0 3 f fd ["self"] (qe3 cw):=by
 refine F.ok sc_Web_pieces (fun vs H Q E h=>?_) fun cdv A outer s H vs Q E hr h=>?_
 ·obtain ⟨x,ss,ns,rfl,_⟩:=h;rfl
 ·obtain ⟨x,ss,ns,rfl,hW,q⟩:=h
  obtain ⟨dx,d,ol,n,hx,hd,ho,hn,hw⟩:=id hW
  refine ⟨_,(qd (qo (i:=1) sc_Web_pieces.nd rfl (Or.inl rfl) (qK qc))
 (qd (qo (i:=2) sc_Web_pieces.nd rfl (Or.inl rfl) qg)
 (qd (jt PassesOwn.never rfl (qT rfl T.b_range (qa (qk (jT (K:=K) rfl) rfl T.b_len boot_len (qa (j3 (K:=K) rfl (pv 0) rfl) qc)) qc)) (qr (i:=3) sc_Web_pieces.nd rfl (Or.inl rfl))
 (qf (jf (jK (jr (qu D_has_bit (hmR hr) qC (qa (pv 2) (qa (pv 3) qc))))) (qd (qo (i:=4) sc_Web_pieces.nd rfl (Or.inl rfl) (qu D_piece_around (hmR hr) qC (qa (j3 (K:=K) rfl (pv 0) rfl) (qa (pv 3) qc))))
 (qd (qo (i:=2) sc_Web_pieces.nd rfl (Or.inl rfl) (qp qcp (pv 2) (pv 4)))
 (qf (qR (qdt (K:=K) rfl PySem.F.plainAttrs_list PySem.F.slot_list_append PySem.F.type_list_append q8 (pv 1) (qa (zM D_Web_names_in (hmR hr) (pv 0) (qa (pv 4) qc)) qc)))))) qv)))
 (qf (qq (pv 1)))))),?_⟩
  walk_at "vc"
  refine ⟨by decide,fun l hl=>?_⟩
  have s0:=qY (L2.Same.refl H) (o:=.lst []) hl
  walk_at "vc"
  refine .inl ⟨x,cw,dx,_,.ref ol,rfl,s0 _ _ hx,T.wcl,T.wo,qaO,?_⟩
  walk_at "vc"
  refine qau (s0 _ _ ho) ?_
  rw [List.length_map]
  have few:=hw.few
  refine ⟨_,rfl,by omega,by omega,?_⟩
  rw [Int.toNat_natCast]
  refine jL (fun k σ H'=>k≤ss.length∧∃ (sn:Nat) (ls:List Addr) (x3 x4:Option V),σ=[some (.ref x),some (.ref l),some (.int sn),x3,x4]∧L2.Same H H'∧H' l=some (.lst (ls.map V.ref))∧All2 (qfz H H' l) ls ((qbC ns k).map (zY ss ns))∧ls.length≤k∧∀ b,sn.testBit b=true↔∃ j,j < k∧Rch ns j b)
   ⟨Nat.zero_le _,0,[],none,none,rfl,s0,qb,All2.nil,Nat.le_refl _,fun b=>⟨fun h=>by simp at h,fun ⟨j,h,_⟩=>by omega⟩⟩ (fun k σ H1 hk hp=>?_) fun σ H1 hp=>?_
  ·obtain ⟨_,sn,ls,x3,x4,rfl,s1,hl1,hall,hlen,hsn⟩:=hp
   walk_at "vc"
   rw [Int.zero_add]
   refine ⟨_,_,rfl,by omega,?_⟩
   rw [qa9]
   walk_at "vc"
   refine jk (fun hb=>?_) fun hb=>?_
   ·have hnot:¬ ∃ j,j < k∧Rch ns j k:=fun h=>by
     rw [← hsn] at h
     rw [h] at hb
     cases hb
    walk_at "vc"
    refine .inl ⟨x,cw,dx,_,.ref n,rfl,s1 _ _ hx,T.wcl,T.wr,qd1,?_⟩
    walk_at "vc"
    refine ⟨n,ns,k,rfl,s1 _ _ hn,by rw [hw.len];omega,by rw [hw.len];exact few,by rw [hw.len];exact hw.lt,fun b H2 s2 hbr=>?_⟩
    have s3:=s1.trans s2
    have hl2:=s2 _ _ hl1
    walk_at "vc"
    rw [qcA]
    refine ⟨.inl ⟨rfl,_,SqL.of hl2⟩,?_⟩
    walk_at "vc"
    refine ⟨x,dx,_,rfl,s3 _ _ hx,qba (by decide +kernel),?_⟩
    walk_at "vc"
    refine ⟨x,ss,ns,b,rfl,hW.same s3,fun a ha=>?_⟩
    walk_at "vc"
    have nal:l≠a:=qx hl2 ha
    refine ⟨l,_,_,rfl,rfl,by rw [qi nal];exact hl2,by rw [List.length_map];exact qh (by omega),?_⟩
    have s4:=qeY (qY s3 (o:=.lst ((inB ss 0 b).map V.str)) ha) (o:=.lst (ls.map V.ref++[.ref a])) hl
    refine ⟨by omega,sn ||| b,ls++[a],_,_,rfl,s4,by rw [qb,List.map_append];rfl,?_,by rw [List.length_append];show ls.length + 1≤k + 1;omega,fun c=>?_⟩
    ·rw [(qb9 ns k).2 hnot,List.map_append]
     refine All2.snoc (hall.mono fun a' ps hp=>⟨hp.1,hp.2.1,?_⟩) ⟨s3.free ha,nal.symm,?_⟩
     ·have na:a'≠a:=fun e=>by
       have z:=s2 _ _ hp.2.2
       rw [e,ha] at z
       cases z
      rw [qi hp.2.1,qi na]
      exact s2 _ _ hp.2.2
     ·rw [qi nal.symm,qb,comp_of hw.nd hbr]
    ·rw [Nat.testBit_or,Bool.or_eq_true,hsn,hbr]
     constructor
     ·rintro (⟨j,h1,h2⟩ | h)
      ·exact ⟨j,by omega,h2⟩
      ·exact ⟨k,by omega,h⟩
     ·rintro ⟨j,h1,h2⟩
      by_cases hjk:j=k
      ·subst hjk;exact .inr h2
      ·exact .inl ⟨j,by omega,h2⟩
   ·have hyes:∃ j,j < k∧Rch ns j k:=by
     rw [← hsn]
     simpa using hb
    refine ⟨by omega,sn,ls,_,_,rfl,s1,hl1,?_,by omega,fun c=>?_⟩
    ·rw [(qb9 ns k).1 hyes]
     exact hall
    ·rw [hsn]
     constructor
     ·rintro ⟨j,h1,h2⟩;exact ⟨j,by omega,h2⟩
     ·rintro ⟨j,h1,h2⟩
      by_cases hjk:j=k
      ·subst hjk
       obtain ⟨i,hi,hr⟩:=hyes
       exact ⟨i,hi,hr.trans h2⟩
      ·exact ⟨j,by omega,h2⟩
  ·obtain ⟨_,sn,ls,x3,x4,rfl,s1,hl1,hall,_,_⟩:=hp
   walk_at "vc"
   exact q l ls H1 s1 hl hl1 hall
end
abbrev jZ:Stmt:=ji (top 22) 2
theorem sc_Web_ties:FnScope ["self", "ties", "one", "other"] ["self"] (qe jZ):=⟨rfl,rfl,rfl,by decide +kernel,rfl,by decide +kernel,by decide +kernel⟩
theorem qbn {ss:List Str} {s:Str} (hs:s∈ss) (hn:zy s=true):qw ss (.str s)=true:=by
 unfold qw
 rw [if_pos (show zF (.str s)=true from hn)]
 exact decide_eq_true hs
theorem jO {s:Str} (h:zy s=true):s.length≤6:=(jj (x:=.str s) h).2.2
theorem inB_mem {ss:List Str} (hn:ss.Nodup) {b:Nat} {s:Str} (h:s∈inB ss 0 b):s∈ss∧b.testBit (ss.idxOf s)=true:=by
 rw [qay hn] at h
 exact List.mem_filter.mp h
def qe4 (ss:List Str) (ns:List Nat) (i:Nat):List (Str×Str):=((inB ss 0 (ns.getD i 0)).filter fun o=>decide (i < ss.idxOf o)).map fun o=>(ss.getD i "",o)
def qbb (ss:List Str) (ns:List Nat) (i:Nat):List (Str×Str):=(List.range i).flatMap (qe4 ss ns)
def PrAt (H H':Hp) (l:Addr) (t:Addr) (ab:Str×Str):Prop:=H t=none∧t≠l∧H' t=some (.tup [.str ab.1,.str ab.2])
theorem PrAt.same {H H1 H2:Hp} {l t:Addr} {ab:Str×Str} (h:PrAt H H1 l t ab) (s:L2.Same H1 H2):PrAt H H2 l t ab:=⟨h.1,h.2.1,s _ _ h.2.2⟩
def qgB (cw:Addr):Sp:=fun vs H Q _=>∃ (x:Addr) (ss:List Str) (ns:List Nat),vs=[.ref x]∧WebAt cw H x ss ns ∧
 ∀ (l:Addr) (ts:List Addr) (H':Hp),L2.Same H H'→H l=none→H' l=some (.lst (ts.map V.ref))→ts.length≤196→All2 (PrAt H H' l) ts (qbb ss ns ss.length)→Q (.ref l) H'
section
variable {P:Program} {w:World} {K:W.Frag} {mg:Str→Option Value} {base:Heap} {cc:Nat→Addr} {cw:Addr}
theorem ok_ts {f:Addr} {fd:FuncData} (F:Fun K "ties" "Web.ties" jZ f fd) (T:Txt K mg cc cw) (QD_Web_beside:MethOk P w K mg base CX0 6 cw "beside" ["self", "place"] (fun vs H Q _=>qgz cc cw vs H Q E0)):FnOk P w K mg base CX0 7 f fd ["self"] (qgB cw):=by
 refine F.ok sc_Web_ties (fun vs H Q E h=>?_) fun cdv A outer s H vs Q E hr h=>?_
 ·obtain ⟨x,ss,ns,rfl,_⟩:=h;rfl
 ·obtain ⟨x,ss,ns,rfl,hW,q⟩:=h
  have hu:=zX hr
  obtain ⟨dx,d,ol,n,hx,hd,ho,hn,hw⟩:=id hW
  have few:=hw.few
  have num:∀ (H1:Hp) (y:Str) (i:Nat),L2.Same H H1→ss[i]?=some y→DGet H1 d (.str y) (some (.int (i:Nat))):=fun H1 y i s1 gi=>by
   obtain ⟨j,hj,gj,vj⟩:=jM (i:=0) (List.mem_of_getElem? gi)
   rw [Nat.zero_add] at vj
   have hji:j=i:=qA hw.nd gj gi
   subst hji
   have:=DGet.k (k:=Sum.inr y) (s1 _ _ hd)
   rw [vj] at this
   exact this
  refine ⟨_,(qd (qo (i:=1) sc_Web_ties.nd rfl (Or.inl rfl) (qK qc))
 (qd (jt PassesOwn.never rfl (jo (K:=K) rfl (j3 (K:=K) rfl (pv 0) rfl)) (qr (i:=2) sc_Web_ties.nd rfl (Or.inl rfl))
 (qf (jt PassesOwn.never rfl (jo (K:=K) rfl (zM QD_Web_beside (hmR hr) (pv 0) (qa (pv 2) qc))) (qr (i:=3) sc_Web_ties.nd rfl (Or.inl rfl))
 (qf (jf (qt qdz (qD (qE (K:=K) rfl hu) (j3 (K:=K) rfl (pv 0) rfl) (pv 2) (fun _ _=>rfl)) (qD (qE (K:=K) rfl hu) (j3 (K:=K) rfl (pv 0) rfl) (pv 3) (fun _ _=>rfl)) (qB _)) (qf (qR (qdt (K:=K) rfl PySem.F.plainAttrs_list PySem.F.slot_list_append PySem.F.type_list_append q8 (pv 1) (qa (zh (qa (pv 2) (qa (pv 3) qc))) qc)))) qv)))))
 (qf (qq (pv 1))))),?_⟩
  walk_at "vc"
  refine ⟨by decide,fun l hl=>?_⟩
  have s0:=qY (L2.Same.refl H) (o:=.lst []) hl
  walk_at "vc"
  refine .inl ⟨x,cw,dx,_,.ref ol,rfl,s0 _ _ hx,T.wcl,T.wo,qaO,?_⟩
  refine .inl ⟨⟨_,SqL.of (s0 _ _ ho)⟩,jS (K:=K) (fun i σ H'=>∃ (ts:List Addr) (x2 x3:Option V),σ=[some (.ref x),some (.ref l),x2,x3]∧L2.Same H H'∧H' l=some (.lst (ts.map V.ref))∧ts.length≤i * 14∧All2 (PrAt H H' l) ts (qbb ss ns i))
   ⟨[],none,none,rfl,s0,qb,by simp,All2.nil⟩ (fun i σ H' _ hp=>by obtain ⟨_,_,_,_,z,_⟩:=hp;exact SqL.of (z _ _ ho)) (fun i y σ H1 hy hp=>?_) fun σ H1 hp=>?_⟩
  ·obtain ⟨ts,x2,x3,rfl,s1,hl1,hlen,hall⟩:=hp
   have hi:i < ss.length:=by simpa using (List.getElem?_eq_some_iff.mp hy).1
   have gi:ss[i]?=some ss[i]:=List.getElem?_eq_getElem hi
   generalize ss[i]=sy at gi
   have ey:y=.str sy:=by rw [List.getElem?_map,gi] at hy;cases hy;rfl
   subst ey
   have hny:=hw.nm sy (List.mem_of_getElem? gi)
   walk_at "vc"
   refine ⟨x,dx,_,rfl,s1 _ _ hx,qba (by decide +kernel),?_⟩
   walk_at "vc"
   refine ⟨x,0,x,ss,ns,.str sy,rfl,hW.same s1,Th.flat rfl (fun z e=>by cases e;have:=jO hny;omega),(fun h=>by rw [qbn (List.mem_of_getElem? gi) hny] at h;cases h),fun j gj _ H2 s2 b hb=>?_⟩
   have hji:j=i:=qA hw.nd gj gi
   subst hji
   have s3:=s1.trans s2
   have s4:=qY s3 (o:=.lst ((inB ss 0 (ns.getD j 0)).map V.str)) hb
   have s24:=qY s2 (o:=.lst ((inB ss 0 (ns.getD j 0)).map V.str)) hb
   have eb:upd H2 b (.lst ((inB ss 0 (ns.getD j 0)).map V.str)) b=some (.lst ((inB ss 0 (ns.getD j 0)).map V.str)):=qb
   have nbl:b≠l:=fun e=>by rw [e,s2 _ _ hl1] at hb;cases hb
   have hb0:H b=none:=s3.free hb
   refine .inl ⟨⟨_,SqL.of qb⟩,?_⟩
   generalize upd H2 b (.lst ((inB ss 0 (ns.getD j 0)).map V.str))=H3 at s4 s24 eb ⊢
   have hmem:∀ o,o∈inB ss 0 (ns.getD j 0)→o∈ss:=fun o h=>(inB_mem hw.nd h).1
   have hbl:=qbw (ns.getD j 0) ss 0
   have edef:qe4 ss ns j=((inB ss 0 (ns.getD j 0)).filter fun o=>decide (j < ss.idxOf o)).map fun o=>(ss.getD j "",o):=rfl
   have egd:ss.getD j ""=sy:=by simp [List.getD,gi]
   rw [egd] at edef
   generalize hbs:inB ss 0 (ns.getD j 0)=bs at eb hmem hbl edef ⊢
   refine jS (K:=K) (fun k σ H'=>∃ (us:List Addr) (x3:Option V),σ=[some (.ref x),some (.ref l),some (.str sy),x3]∧L2.Same H H'∧H' b=some (.lst (bs.map V.str))∧H' l=some (.lst (us.map V.ref))∧us.length≤j * 14 + k∧All2 (PrAt H H' l) us (qbb ss ns j++((bs.take k).filter fun o=>decide (j < ss.idxOf o)).map fun o=>(sy,o)))
    ⟨ts,_,rfl,s4,eb,s24 _ _ hl1,hlen,by simpa using hall.mono fun _ _ h=>h.same s24⟩ (fun k σ H' _ hp=>by obtain ⟨_,_,_,_,z,_⟩:=hp;exact SqL.of z) (fun k u σ H5 hu5 hp=>?_) fun σ H5 hp=>?_
   ·obtain ⟨us,x3,rfl,s5,eb5,hl5,hlen5,hall5⟩:=hp
    have hk:k < bs.length:=by simpa using (List.getElem?_eq_some_iff.mp hu5).1
    have gk:bs[k]?=some bs[k]:=List.getElem?_eq_getElem hk
    generalize bs[k]=so at gk
    have eu:u=.str so:=by rw [List.getElem?_map,gk] at hu5;cases hu5;rfl
    subst eu
    have hso:=hmem so (List.mem_of_getElem? gk)
    have hil:=List.idxOf_lt_length_of_mem hso
    have gso:ss[ss.idxOf so]?=some so:=by rw [List.getElem?_eq_getElem hil,List.getElem_idxOf]
    have htk:bs.take (k + 1)=bs.take k++[so]:=by rw [List.take_add_one,gk];rfl
    walk_at "vc"
    refine .inl ⟨x,cw,dx,_,.ref d,rfl,s5 _ _ hx,T.wcl,T.wn,jY,?_⟩
    walk_at "vc"
    refine .inr ⟨d,.int j,rfl,num H5 sy j s5 gi,?_⟩
    walk_at "vc"
    refine .inl ⟨x,cw,dx,_,.ref d,rfl,s5 _ _ hx,T.wcl,T.wn,jY,?_⟩
    walk_at "vc"
    refine .inr ⟨d,.int (ss.idxOf so:Nat),rfl,num H5 so _ s5 gso,?_⟩
    walk_at "vc"
    refine jk (fun hlt=>?_) fun hlt=>?_
    ·have hlt':j < ss.idxOf so:=by have:=of_decide_eq_true hlt;omega
     walk_at "vc"
     refine ⟨.inl ⟨rfl,_,SqL.of hl5⟩,?_⟩
     walk_at "vc"
     refine ⟨by show 2≤sizeLine;decide,fun t ht=>?_⟩
     have nlt:l≠t:=qx hl5 ht
     have nbt:b≠t:=qx eb5 ht
     have s6:=qY (L2.Same.refl H5) (o:=.tup [.str sy,.str so]) ht
     walk_at "vc"
     refine ⟨l,_,_,rfl,rfl,by rw [qi nlt];exact hl5,by rw [List.length_map];exact qh (by have:j * 14≤14 * 14:=Nat.mul_le_mul_right 14 (by omega);omega),?_⟩
     refine ⟨us++[t],_,rfl,qeY (s5.trans s6) hl,by rw [qi nbl,qi nbt];exact eb5,by rw [qb,List.map_append];rfl,by rw [List.length_append];show us.length + 1≤_;omega,?_⟩
     rw [htk,List.filter_append,List.map_append,← List.append_assoc]
     have e1:([so].filter fun o=>decide (j < ss.idxOf o)).map (fun o=>(sy,o))=[(sy,so)]:=by simp [hlt']
     rw [e1]
     refine All2.snoc (hall5.mono fun t' ab h=>⟨h.1,h.2.1,?_⟩) ⟨s5.free ht,nlt.symm,?_⟩
     ·rw [qi h.2.1]
      exact s6 _ _ h.2.2
     ·rw [qi nlt.symm,qb]
    ·have hlt':¬ j < ss.idxOf so:=fun h=>hlt (decide_eq_true (by omega))
     refine ⟨us,_,rfl,s5,eb5,hl5,by omega,?_⟩
     have e1:([so].filter fun o=>decide (j < ss.idxOf o)).map (fun o=>(sy,o))=[]:=by simp [hlt']
     rw [htk,List.filter_append,List.map_append,e1,List.append_nil]
     exact hall5
   ·obtain ⟨us,x3,rfl,s5,eb5,hl5,hlen5,hall5⟩:=hp
    rw [List.length_map,List.take_length] at hall5
    rw [List.length_map] at hlen5
    refine ⟨us,_,_,rfl,s5,hl5,by omega,?_⟩
    unfold qbb at hall5 ⊢
    rw [List.range_succ,List.flatMap_append]
    have e1:[j].flatMap (qe4 ss ns)=(bs.filter fun o=>decide (j < ss.idxOf o)).map fun o=>(sy,o):=by rw [← edef];simp
    rw [e1]
    exact hall5
  ·obtain ⟨ts,x2,x3,rfl,s1,hl1,hlen,hall⟩:=hp
   rw [List.length_map] at hlen hall
   walk_at "vc"
   exact q l ts H1 s1 hl hl1 (by have:ss.length * 14≤14 * 14:=Nat.mul_le_mul_right 14 few;omega) hall
end
def Box (H:Hp) (p:Addr):Prop:=∃ a b c:Int,H p=some (.lst [.int a,.int b,.int c])
def BB (p:Addr) (H H':Hp):Prop:=(∀ b o,b≠p→H b=some o→H' b=some o)∧Box H' p
section
variable {P:Program} {w:World} {K:W.Frag} {mg:Str→Option Value} {base:Heap} {cc:Nat→Addr} {cw:Addr}
def NewH (H H':Hp):Hp:=fun a=>match H a with | none=>H' a | some _=>none
theorem qd2 (c:Str) (ss:List Str):inV (.str c) (ss.map V.str)=decide (c∈ss):=by
 unfold inV
 rw [List.any_map,Bool.eq_iff_iff,List.any_eq_true,decide_eq_true_iff]
 constructor
 ·rintro ⟨y,hy,e⟩
  have:y=c:=eq_of_beq e
  rw [← this];exact hy
 ·intro h
  exact ⟨c,h,beq_self_eq_true c⟩
theorem qca (ss:List Str):(ss.map V.str).all zx=true:=by rw [List.all_map];exact List.all_eq_true.mpr fun _ _=>rfl
def signs:List Str:=("abcdefghijklmno":Str).cps.toList.map fun c=>⟨#[c]⟩
end
theorem slice_ix (k n:Nat):Builtin.Str.strSliceIndices none (some (k:Int)) 1 n=List.range (min k n):=by
 unfold Builtin.Str.strSliceIndices sliceRange
 simp only [show (1:Int) > 0 by decide,if_true]
 rw [if_neg (show ¬ ((k:Int) < 0) by omega)]
 have e1:max 0 (min (k:Int) n)=((min k n:Nat):Int):=by omega
 rw [e1]
 have e2:(fun (j:Nat)=>((0:Int) + 1 * (j:Int)).toNat)=id:=by funext j;show _=j;omega
 rw [e2,List.map_id]
 congr 1
 split
 ·rw [Int.ediv_one];omega
 ·omega
theorem qd3 (a:Array Nat):∀ m,m≤a.size→(List.range m).filterMap (a[·]?)=a.toList.take m
 | 0,_=>rfl
 | m + 1,h=>by
  rw [List.range_succ,List.filterMap_append,qd3 a m (by omega),List.take_add_one]
  congr 1
  have e:a[m]?=some a[m]:=Array.getElem?_eq_getElem (by omega)
  have e':a.toList[m]?=some a[m]:=by rw [Array.getElem?_toList];exact e
  rw [e',List.filterMap_cons,e]
  rfl
theorem qaz (z:Str) (k:Nat):(Txt.slice z none (some (k:Int))).cps.toList=z.cps.toList.take k:=by
 unfold Txt.slice
 rw [slice_ix]
 have hz:z.length=z.cps.toList.length:=by simp [Str.length]
 split
 ·rename_i h
  rw [List.length_range] at h
  have:min k z.length=z.length:=by simpa using h
  rw [List.take_of_length_le (by omega)]
 ·show (List.filterMap _ _).toArray.toList=_
  rw [qd3 z.cps (min k z.length) (Nat.min_le_right _ _)]
  show z.cps.toList.take (min k z.length)=_
  by_cases hk:k≤z.length
  ·rw [Nat.min_eq_left hk]
  ·rw [Nat.min_eq_right (by omega),List.take_of_length_le (by omega),List.take_of_length_le (by omega)]
theorem qan (a b:Str):(a++b).cps.toList=a.cps.toList++b.cps.toList:=by
 show (a.cps++b.cps).toList=_
 exact Array.toList_append
theorem qda:∀ {xs:List Str},(∀ x∈xs,x.cps.toList.all sg=true)→(Str.join "" xs).cps.toList.all sg=true
 | [],_=>rfl
 | [x],h=>h x (by simp)
 | x::y::r,h=>by
  have e:Str.join "" (x::y::r)=x++""++Str.join "" (y::r):=rfl
  rw [e,qan,qan,List.all_append,List.all_append,h x (by simp),qda fun z hz=>h z (List.mem_cons_of_mem _ hz)]
  decide +kernel
theorem qfA {c:Nat} (h:97≤c) (h2:c≤122):sg c=true:=by
 have key:∀ i,i < 26→sg (97 + i)=true:=by decide +kernel
 have:=key (c - 97) (by omega)
 rwa [show 97 + (c - 97)=c by omega] at this
theorem join_len {xs:List Str} (h:∀ x∈xs,x.length=1):(Txt.join "" xs).length=xs.length:=by
 have e:Txt.join "" xs=Str.join "" xs:=beq_iff_eq.mp (join_plain_closes "" xs)
 rw [e]
 cases xs with
 | nil=>rfl
 | cons a l =>
  rw [len_join_cons]
  have key:∀ l:List Str,(∀ x∈l,x.length=1)→(l.map (·.length)).sum=l.length:=by
   intro l
   induction l with
   | nil=>intro _;rfl
   | cons a l ih =>
    intro h
    rw [List.map_cons,List.sum_cons,h a List.mem_cons_self,ih fun x hx=>h x (List.mem_cons_of_mem _ hx),List.length_cons]
    omega
  have z:("":Str).length=0:=by decide +kernel
  rw [key _ h,z]
  omega
theorem sum_ones {xs:List Str} (h:∀ x∈xs,x.length=1):(xs.map (·.length)).sum=xs.length:=by
 induction xs with
 | nil=>rfl
 | cons a l ih =>
  rw [List.map_cons,List.sum_cons,h a List.mem_cons_self,ih fun x hx=>h x (List.mem_cons_of_mem _ hx),List.length_cons]
  omega
def Signs (p:Addr) (H:Hp) (i:Nat) (ys:List V) (H':Hp):Prop:=BB p H H'∧∃ xs:List Str,ys=xs.map V.str∧xs.length=i∧∀ x∈xs,x.length=1∧x.cps.toList.all sg=true
def L26:Str:="abcdefghijklmnopqrstuvwxyz"
theorem qeJ {i:Int} (h0:0≤i) (h1:i < 26):atI L26.cps.toList i=some (97 + i.toNat):=by
 obtain ⟨n,rfl⟩:=Int.eq_ofNat_of_zero_le h0
 have key:∀ n,n < 26→L26.cps.toList[n]?=some (97 + n):=by decide +kernel
 rw [Int.toNat_natCast]
 exact qH (key n (by omega))
theorem qaQ {x:Str} {l:List Nat} (e:x.cps.toList=l) (h1:1≤l.length) (h6:l.length≤6) (h:l.all sg=true):zy x=true:=by
 have hl:x.length=l.length:=by rw [← e];simp [Str.length]
 unfold zy
 rw [if_pos ⟨by omega,by omega⟩,e]
 exact h
theorem nodup_key {ss:List Str} (h:∀ (i j:Nat) (s:Str),ss[i]?=some s→ss[j]?=some s→i=j):ss.Nodup:=by
 refine List.pairwise_iff_getElem.mpr fun i j hi hj hij e=>?_
 have:=h i j ss[j] (by rw [List.getElem?_eq_getElem hi,e]) (List.getElem?_eq_getElem hj)
 omega
def NL (p:Addr) (H':Hp) (l:Addr) (ss:List Str):Prop:=H' l=some (.lst (ss.map V.str))∧l≠p
structure NOk (ss:List Str):Prop where
 few:ss.length≤14
 nd:ss.Nodup
 nm:∀ s∈ss,zy s=true
section
variable {P:Program} {w:World} {K:W.Frag} {mg:Str→Option Value} {base:Heap} {cc:Nat→Addr} {cw:Addr}
end
def PrT (p:Addr) (H:Hp) (t:Addr) (ab:Str×Str):Prop:=t≠p∧H t=some (.tup [.str ab.1,.str ab.2])
def TL (p:Addr) (H:Hp) (l:Addr) (ts:List Addr) (tps:List (Str×Str)):Prop:=H l=some (.lst (ts.map V.ref))∧l≠p∧All2 (PrT p H) ts tps
structure TOk (ss:List Str) (tps:List (Str×Str)):Prop where
 few:tps.length≤30
 ok:∀ ab∈tps,∃ j k:Nat,j < k∧ss[j]?=some ab.1∧ss[k]?=some ab.2
 nd:tps.Nodup
def Shuf (tps ups:List (Str×Str)):Prop:=∃ qps,ups.Perm qps∧All2 (fun a b=>b=a∨b=(a.2,a.1)) tps qps
section
variable {P:Program} {w:World} {K:W.Frag} {mg:Str→Option Value} {base:Heap} {cc:Nat→Addr} {cw:Addr}
end
def PL (H:Hp) (l:Addr) (ts:List Addr) (tps:List (Str×Str)):Prop:=H l=some (.lst (ts.map V.ref))∧All2 (fun t ab=>H t=some (.tup [.str ab.1,.str ab.2])) ts tps
def qao (ss:List Str) (tps:List (Str×Str)) (one:Str):List (Str×Str):=(ss.filter fun o=>decide ((one,o)∈tps)).map fun o=>(one,o)
def qap (ss:List Str) (tps:List (Str×Str)) (l:List Str):List (Str×Str):=l.flatMap (qao ss tps)
theorem str_eq_list {ss:List Str} {i:Nat} {y:V} (hy:(ss.map V.str)[i]?=some y):∃ s,ss[i]?=some s∧y=.str s:=by
 rw [List.getElem?_map] at hy
 cases h:ss[i]? with
 | none=>rw [h] at hy;cases hy
 | some s=>rw [h] at hy;cases hy;exact ⟨s,rfl,rfl⟩
section
variable {P:Program} {w:World} {K:W.Frag} {mg:Str→Option Value} {base:Heap} {cc:Nat→Addr} {cw:Addr}
end
def Adj (ss:List Str) (ns:List Nat) (tps:List (Str×Str)):Prop:=∀ a b s t,ss[a]?=some s→ss[b]?=some t→((ns.getD a 0).testBit b=true↔((s,t)∈tps∨(t,s)∈tps))
theorem idx_get {ss:List Str} {s:Str} (h:s∈ss):ss[ss.idxOf s]?=some s:=by
 have hl:=List.idxOf_lt_length_of_mem h
 rw [List.getElem?_eq_getElem hl,List.getElem_idxOf]
section
variable {P:Program} {w:World} {K:W.Frag} {mg:Str→Option Value} {base:Heap} {cc:Nat→Addr} {cw:Addr}
structure Wk (ss:List Str) (ns:List Nat) (k:Nat) (name:Str) (ps qs:List Str):Prop where
 nd:ps.Nodup
 has:name∈ps
 rch:∀ s∈ps,s∈ss∧Rch ns k (ss.idxOf s)
 sub:∀ s∈qs,s∈ps
end
section
variable {P:Program} {w:World} {K:W.Frag} {mg:Str→Option Value} {base:Heap} {cc:Nat→Addr} {cw:Addr}
end
section
variable {P:Program} {w:World} {K:W.Frag} {mg:Str→Option Value} {base:Heap} {cc:Nat→Addr} {cw:Addr}
end
def UN (x y:Str×Str):Prop:=x≠y∧x≠(y.2,y.1)
theorem UN.symm {x y:Str×Str} (h:UN x y):UN y x:=⟨fun e=>h.1 e.symm,fun e=>h.2 (by rw [e])⟩
theorem TOk.un {ss:List Str} {tps:List (Str×Str)} (hn:ss.Nodup) (h:TOk ss tps):tps.Pairwise UN:=by
 have nd:=h.nd
 refine List.Pairwise.imp_of_mem (fun {a b} ha hb (hne:a≠b)=>⟨hne,fun e=>?_⟩) nd
 obtain ⟨j,k,h1,h2,h3⟩:=h.ok a ha
 obtain ⟨j',k',g1,g2,g3⟩:=h.ok b hb
 rw [e] at h2 h3
 have e1:=qA hn h2 g3
 have e2:=qA hn h3 g2
 omega
theorem Shuf.un {ss:List Str} {tps ups:List (Str×Str)} (hn:ss.Nodup) (h:TOk ss tps) (sh:Shuf tps ups):ups.Pairwise UN:=by
 obtain ⟨qps,hp,hA⟩:=sh
 have hu:=h.un hn
 refine hp.symm.pairwise ?_ fun h=>h.symm
 refine List.pairwise_iff_getElem.mpr fun i j hi hj hij=>?_
 have hi':i < tps.length:=by rw [hA.len];exact hi
 have hj':j < tps.length:=by rw [hA.len];exact hj
 have hu':=List.pairwise_iff_getElem.mp hu i j hi' hj' hij
 have ai:=hA.at_ i tps[i] qps[i] (List.getElem?_eq_getElem hi') (List.getElem?_eq_getElem hi)
 have aj:=hA.at_ j tps[j] qps[j] (List.getElem?_eq_getElem hj') (List.getElem?_eq_getElem hj)
 generalize tps[i]=a at hu' ai
 generalize tps[j]=b at hu' aj
 generalize qps[i]=c at ai
 generalize qps[j]=d at aj
 obtain ⟨a1,a2⟩:=a
 obtain ⟨b1,b2⟩:=b
 obtain ⟨h1,h2⟩:=hu'
 rcases ai with rfl | rfl<;>rcases aj with rfl | rfl<;>refine ⟨fun e=>?_,fun e=>?_⟩<;>dsimp only at e h1 h2<;>rw [Prod.mk.injEq] at e<;>simp only [ne_eq,Prod.mk.injEq] at h1 h2<;>first | exact h1 ⟨e.1,e.2⟩ | exact h2 ⟨e.1,e.2⟩ | exact h1 ⟨e.2,e.1⟩ | exact h2 ⟨e.2,e.1⟩
theorem Shuf.mem {tps ups:List (Str×Str)} (sh:Shuf tps ups) (s t:Str):((s,t)∈ups∨(t,s)∈ups)↔((s,t)∈tps∨(t,s)∈tps):=by
 obtain ⟨qps,hp,hA⟩:=sh
 rw [hp.mem_iff,hp.mem_iff]
 constructor
 ·have key:∀ c∈qps,c∈tps∨(c.2,c.1)∈tps:=fun c hc=>by
   obtain ⟨k,hk,e⟩:=List.getElem_of_mem hc
   have hk':k < tps.length:=by rw [hA.len];exact hk
   have a:=hA.at_ k tps[k] qps[k] (List.getElem?_eq_getElem hk') (List.getElem?_eq_getElem hk)
   rw [e] at a
   rcases a with a | a
   ·rw [a];exact .inl (List.getElem_mem hk')
   ·rw [a];exact .inr (List.getElem_mem hk')
  rintro (h | h)
  ·exact key _ h
  ·rcases key _ h with h | h
   ·exact .inr h
   ·exact .inl h
 ·have key:∀ c∈tps,c∈qps∨(c.2,c.1)∈qps:=fun c hc=>by
   obtain ⟨d,hd,r⟩:=hA.mem hc
   rcases r with r | r
   ·rw [← r];exact .inl hd
   ·rw [← r];exact .inr hd
  rintro (h | h)
  ·exact key _ h
  ·rcases key _ h with h | h
   ·exact .inr h
   ·exact .inl h
theorem Shuf.good {ss:List Str} {tps ups:List (Str×Str)} (h:TOk ss tps) (sh:Shuf tps ups):∀ ab∈ups,ab.1∈ss∧ab.2∈ss∧(ss.Nodup→ab.1≠ab.2):=fun ab hab=>by
 have:=(sh.mem ab.1 ab.2).mp (.inl hab)
 rcases this with h' | h'
 ·obtain ⟨j,k,h1,h2,h3⟩:=h.ok _ h'
  exact ⟨List.mem_of_getElem? h2,List.mem_of_getElem? h3,fun nd e=>by dsimp only at h2 h3;rw [e] at h2;have:=qA nd h2 h3;omega⟩
 ·obtain ⟨j,k,h1,h2,h3⟩:=h.ok _ h'
  exact ⟨List.mem_of_getElem? h3,List.mem_of_getElem? h2,fun nd e=>by dsimp only at h2 h3;rw [e] at h3;have:=qA nd h2 h3;omega⟩
theorem Shuf.len {tps ups:List (Str×Str)} (sh:Shuf tps ups):ups.length=tps.length:=by
 obtain ⟨qps,hp,hA⟩:=sh
 rw [hp.length_eq,hA.len]
theorem qd4:∀ (l acc:List Str),(∀ s∈l,zy s=true)→l.Nodup→(∀ s∈l,s∉acc)→qdq (l.map V.str) acc=none
 | [],_,_,_,_=>rfl
 | s::r,acc,hn,nd,hd=>by
  rw [List.map_cons,qb4,if_pos (show zF (.str s)=true from hn s List.mem_cons_self),if_neg (show ¬ qG (.str s)∈acc from hd s List.mem_cons_self)]
  show qdq (r.map V.str) (acc++[s])=none
  rw [List.nodup_cons] at nd
  refine qd4 r _ (fun t ht=>hn t (List.mem_cons_of_mem _ ht)) nd.2 fun t ht hm=>?_
  rcases List.mem_append.mp hm with h | h
  ·exact hd t (List.mem_cons_of_mem _ ht) h
  ·have:t=s:=List.mem_singleton.mp h
   rw [this] at ht
   exact nd.1 ht
theorem tieV_ok {H:Hp} {ss:List Str} {t:Addr} {a b:Str} (e:H t=some (.tup [.str a,.str b])) (ha:qw ss (.str a)=true) (hb:qw ss (.str b)=true) (hne:a≠b):zt H ss (.ref t)=some (a,b):=by
 rw [qc5 e,if_pos]
 ·rfl
 ·unfold qdp
  rw [ha,hb]
  simp [qG,hne]
theorem qeK {H:Hp} {ss:List Str}:∀ (us:List Addr) (ups seen:List (Str×Str)),us.length=ups.length→(∀ (k:Nat) t ab,us[k]?=some t→ups[k]?=some ab→zt H ss (.ref t)=some ab)→(seen++ups).Pairwise UN→goT H ss (us.map V.ref) seen=none
 | [],_,_,_,_,_=>rfl
 | u::us,[],_,hl,_,_=>by cases hl
 | u::us,ab::ups,seen,hl,hc,hp=>by
  rw [List.map_cons,qc7 (hc 0 u ab rfl rfl),if_neg]
  ·refine qeK us ups (seen++[ab]) (Nat.succ.inj hl) (fun k t cd h1 h2=>hc (k + 1) t cd (by simpa using h1) (by simpa using h2)) ?_
   rw [List.append_assoc]
   exact hp
  ·rw [List.pairwise_append] at hp
   rintro (h | h)
   ·exact (hp.2.2 ab h ab List.mem_cons_self).1 rfl
   ·exact (hp.2.2 _ h ab List.mem_cons_self).2 rfl
theorem qd5 {H:Hp} {ss:List Str}:∀ (us:List Addr) (ups:List (Str×Str)),us.length=ups.length→(∀ (k:Nat) t ab,us[k]?=some t→ups[k]?=some ab→zt H ss (.ref t)=some ab)→(us.map V.ref).filterMap (zt H ss)=ups
 | [],[],_,_=>rfl
 | [],_::_,hl,_=>by cases hl
 | _::_,[],hl,_=>by cases hl
 | u::us,ab::ups,hl,hc=>by
  rw [List.map_cons,List.filterMap_cons,hc 0 u ab rfl rfl]
  exact congrArg (ab::·) (qd5 us ups (Nat.succ.inj hl) fun k t cd h1 h2=>hc (k + 1) t cd (by simpa using h1) (by simpa using h2))
theorem qcb (ss:List Str):(ss.map V.str).map qG=ss:=by
 rw [List.map_map]
 exact List.map_id ss
theorem make_ok {H:Hp} {ss:List Str} {v v2:V} {us:List Addr} {tps ups:List (Str×Str)} (hO:NOk ss) (hT:TOk ss tps) (sh:Shuf tps ups) (hc:All2 (fun t ab=>H t=some (.tup [.str ab.1,.str ab.2])) us ups) :
  qeZ H v (some (ss.map V.str)) v2 (some (us.map V.ref))=none∧(us.map V.ref).filterMap (zt H ss)=ups:=by
 have pl:∀ s,s∈ss→qw ss (.str s)=true:=fun s hs=>qbn hs (hO.nm s hs)
 have tv:∀ (k:Nat) t ab,us[k]?=some t→ups[k]?=some ab→zt H ss (.ref t)=some ab:=fun k t ab h1 h2=>by
  obtain ⟨g1,g2,g3⟩:=sh.good hT ab (List.mem_of_getElem? h2)
  exact tieV_ok (hc.at_ k t ab h1 h2) (pl _ g1) (pl _ g2) (g3 hO.nd)
 have hN:qfb v (some (ss.map V.str))=none:=by
  show (if 14 < (ss.map V.str).length then _ else qdq (ss.map V.str) [])=none
  rw [if_neg (by rw [List.length_map];have:=hO.few;omega)]
  exact qd4 ss [] hO.nm hO.nd (by simp)
 refine ⟨?_,qd5 us ups hc.len tv⟩
 unfold qeZ
 rw [hN]
 show qed H ((ss.map V.str).map qG) v2 (some (us.map V.ref))=none
 rw [qcb]
 show (if 30 < (us.map V.ref).length then _ else (goT H ss (us.map V.ref) []).map _)=none
 rw [if_neg (by rw [List.length_map,hc.len,sh.len];have:=hT.few;omega),qeK us ups [] hc.len tv (by simpa using sh.un hO.nd hT)]
 rfl
theorem qd6 {ss:List Str} {ns:List Nat} {tps ups:List (Str×Str)} (sh:Shuf tps ups) (hb:jN ss ns ups):Adj ss ns tps:=fun a b s t ga gb=>by
 rw [hb.2.2 a b s t ga gb,decide_eq_true_iff]
 exact sh.mem s t
theorem qcD {ss:List Str} {tps:List (Str×Str)} (hT:TOk ss tps) (s t:Str):(s,t)∈qap ss tps ss↔(s,t)∈tps:=by
 unfold qap
 rw [List.mem_flatMap]
 constructor
 ·rintro ⟨one,_,h⟩
  unfold qao at h
  obtain ⟨o,ho,e⟩:=List.mem_map.mp h
  cases e
  exact of_decide_eq_true (List.mem_filter.mp ho).2
 ·intro h
  obtain ⟨j,k,h1,h2,h3⟩:=hT.ok _ h
  refine ⟨s,List.mem_of_getElem? h2,?_⟩
  unfold qao
  exact List.mem_map.mpr ⟨t,List.mem_filter.mpr ⟨List.mem_of_getElem? h3,decide_eq_true h⟩,rfl⟩
theorem Adj.ris {ss:List Str} {ns:List Nat} {tps:List (Str×Str)} (hT:TOk ss tps) (h:Adj ss ns tps):Adj ss ns (qap ss tps ss):=fun a b s t ga gb=>by
 rw [qcD hT,qcD hT]
 exact h a b s t ga gb
theorem qcc (ss:List Str):(List.range ss.length).map (fun i=>ss.getD i "")=ss:=by
 apply List.ext_getElem?
 intro i
 rw [List.getElem?_map]
 by_cases h:i < ss.length
 ·rw [List.getElem?_range h,List.getElem?_eq_getElem h]
  simp [List.getD,h]
 ·rw [List.getElem?_eq_none (by simpa using h),List.getElem?_eq_none (by omega)]
  rfl
theorem ties_ris {ss:List Str} {ns:List Nat} {tps:List (Str×Str)} (hw:WOk ss ns) (hT:TOk ss tps) (ha:Adj ss ns tps):qbb ss ns ss.length=qap ss tps ss:=by
 have e:qap ss tps ss=(List.range ss.length).flatMap fun i=>qao ss tps (ss.getD i ""):=by
  unfold qap
  conv=>lhs;rw [← qcc ss]
  rw [List.flatMap_map]
  rw [qcc]
 rw [e]
 unfold qbb
 have key:∀ i∈List.range ss.length,qe4 ss ns i=qao ss tps (ss.getD i ""):=fun i hi=>by
  have hi:i < ss.length:=List.mem_range.mp hi
  have gi:ss[i]?=some (ss.getD i ""):=by simp [List.getD,hi]
  unfold qe4 qao
  congr 1
  rw [qay hw.nd,List.filter_filter]
  apply List.filter_congr
  intro o ho
  have go:=idx_get ho
  rw [Bool.eq_iff_iff,Bool.and_eq_true,decide_eq_true_iff,decide_eq_true_iff,ha i _ _ o gi go]
  constructor
  ·rintro ⟨h1,h2 | h2⟩
   ·exact h2
   ·obtain ⟨j,k,l1,l2,l3⟩:=hT.ok _ h2
    have e1:=qA hw.nd l2 go
    have e2:=qA hw.nd l3 gi
    omega
  ·intro h
   obtain ⟨j,k,l1,l2,l3⟩:=hT.ok _ h
   have e1:=qA hw.nd l2 gi
   have e2:=qA hw.nd l3 go
   exact ⟨by omega,.inl h⟩
 have fmc:∀ l:List Nat,(∀ i∈l,qe4 ss ns i=qao ss tps (ss.getD i ""))→l.flatMap (qe4 ss ns)=l.flatMap fun i=>qao ss tps (ss.getD i ""):=fun l=>by
  induction l with
  | nil=>intro _;rfl
  | cons a r ih =>
   intro h
   rw [List.flatMap_cons,List.flatMap_cons,h a List.mem_cons_self,ih fun i hi=>h i (List.mem_cons_of_mem _ hi)]
 exact fmc _ key
theorem But.out {x:Addr} {H H0 H':Hp} (b:But x H0 H') (s:L2.Same H H0) (hx:H x=none):L2.Same H H':=fun c o e=>b c o (fun z=>by subst z;rw [hx] at e;cases e) (s c o e)
def qel (K:W.Frag):Sp:=fun vs H Q _=>∃ (a:Addr) (ns:List Int),vs=[.ref a]∧SqL K H a (ns.map V.int)∧ns.length≤63∧∀ H',Q (.bl true) H'
section
variable {P:Program} {w:World} {K:W.Frag} {mg:Str→Option Value} {base:Heap} {cc:Nat→Addr} {cw:Addr}
end
def qem (l:Str):Str:=(PySem.Txt.partition l ":").1
def pMid (l:Str):Str:=(PySem.Txt.partition l ":").2.1
def pTail (l:Str):Str:=(PySem.Txt.partition l ":").2.2
def wds (l:Str):List Str:=PySem.Txt.split (pTail l) " "
def fw:List Str→Nat→List Str→Sum Nat (List Str)
 | [],_,acc=>.inr acc
 | l::r,k,acc=>if pMid l=""∨zy (qem l)=false∨qem l∈acc∨14≤k then .inl k else fw r (k + 1) (acc++[qem l])
def bel (ss:List Str):List Str→Nat→Bool
 | [],_=>true
 | w::r,k=>if w∈ss∧k < ss.idxOf w then bel ss r (ss.idxOf w) else false
def qgC (l:Str):List (Str×Str):=(wds l).tail.map fun o=>(qem l,o)
def ti (ss:List Str):List Str→Nat→List (Str×Str)→Sum Nat (List (Str×Str))
 | [],_,acc=>.inr acc
 | l::r,k,acc=>if (wds l).headD ""≠""∨bel ss (wds l).tail k=false∨30 < (acc++qgC l).length then .inl k else ti ss r (k + 1) (acc++qgC l)
theorem drop_at {α:Type} {xs:List α} {i:Nat} {x:α} (hx:xs[i]?=some x):xs.drop i=x::xs.drop (i + 1):=by
 have hil:i < xs.length:=(List.getElem?_eq_some_iff.mp hx).1
 rw [List.drop_eq_getElem_cons hil,(List.getElem?_eq_some_iff.mp hx).2]
section
variable {P:Program} {w:World} {K:W.Frag} {mg:Str→Option Value} {base:Heap} {cc:Nat→Addr} {cw:Addr}
end
section
variable {P:Program} {w:World} {K:W.Frag} {mg:Str→Option Value} {base:Heap} {cc:Nat→Addr} {cw:Addr}
end
theorem Shuf.self (tps:List (Str×Str)):Shuf tps tps:=⟨tps,List.Perm.refl _,rfl,fun k a b h1 h2=>by rw [h1] at h2;cases h2;exact .inl rfl⟩
theorem WebN.old {H0 H1:Hp} {cw:Addr} {H:Hp} {x:Addr} {ss:List Str} {ns:List Nat} (h:WebN H1 cw H x ss ns) (s:L2.Same H0 H1):WebN H0 cw H x ss ns:=by
 obtain ⟨dx,d,ol,n,h1,h2,h3,h4,h5,a2,a3,a4⟩:=h
 exact ⟨dx,d,ol,n,h1,h2,h3,h4,h5,s.free a2,s.free a3,s.free a4⟩
theorem qdb {cc:Nat→Addr} {cw:Addr} {G:Hp} {c1 l' x dx:Addr} {ss:List Str} {us:List Addr} {tps ups:List (Str×Str)} {Q:VK} {E:XK} (h1:G c1=some (.lst (ss.map V.str))) (h2:G l'=some (.lst (us.map V.ref))) (hA:All2 (fun t ab=>G t=some (.tup [.str ab.1,.str ab.2])) us ups)
  (hO:NOk ss) (hT:TOk ss tps) (sh:Shuf tps ups) (hx0:G x=none) (hdx:G dx=none) (hne:x≠dx) (q:∀ ns H',L2.Same G H'→WebN G cw H' x ss ns→jN ss ns ups→Q .non H') :
  qdr cc cw [.ref x,.ref c1,.ref l'] (upd (upd G dx (.own x)) x (.ins cw dx [])) Q E:=by
 have s0:L2.Same G (upd (upd G dx (.own x)) x (.ins cw dx [])):=qY (qY (L2.Same.refl G) hdx) (by rw [qi hne];exact hx0)
 have hl0:=hA.mono fun t ab z=>s0 _ _ z
 have mk0:=make_ok (H:=upd (upd G dx (.own x)) x (.ins cw dx [])) (v:=.ref c1) (v2:=.ref l') hO hT sh hl0
 have nx:∀ {a:Addr} {o:HO},G a=some o→a≠x:=fun e z=>by rw [z,hx0] at e;cases e
 refine ⟨x,x,dx,.ref c1,some (ss.map V.str),.ref l',some (us.map V.ref),rfl,qb,.lst (s0 _ _ h1) (nx h1) (fun v hv=>?_) (by rw [List.length_map];have:=hO.few;omega),.lst (s0 _ _ h2) (nx h2) (fun v hv=>?_) (by rw [List.length_map,hA.len,sh.len];have:=hT.few;omega),(fun r e=>by rw [mk0.1] at e;cases e),fun _ ns H' b hWN hbits=>?_⟩
 ·obtain ⟨s,hs,rfl⟩:=List.mem_map.mp hv
  exact Th.flat rfl fun z e=>by cases e;have:=jO (hO.nm _ hs);omega
 ·obtain ⟨u,hu',rfl⟩:=List.mem_map.mp hv
  obtain ⟨ab,hab,eu⟩:=hA.mem hu'
  obtain ⟨g1,g2,_⟩:=sh.good hT ab hab
  refine (Th.tup (n:=1) (s0 _ _ eu) (nx eu) (fun z hz=>?_) (by show 2≤1000;decide))
  simp only [List.mem_cons,List.not_mem_nil,or_false] at hz
  rcases hz with rfl | rfl
  ·exact Th.flat rfl fun z e=>by cases e;have:=jO (hO.nm _ g1);omega
  ·exact Th.flat rfl fun z e=>by cases e;have:=jO (hO.nm _ g2);omega
 ·have e1:((some (ss.map V.str)).getD []).map qG=ss:=qcb ss
  rw [e1] at hbits hWN
  have e2:((some (us.map V.ref)).getD []).filterMap (zt (upd (upd G dx (.own x)) x (.ins cw dx [])) ss)=ups:=mk0.2
  rw [e2] at hbits
  exact q ns H' (b.out s0 hx0) (hWN.old s0) hbits
section
variable {P:Program} {w:World} {K:W.Frag} {mg:Str→Option Value} {base:Heap} {cc:Nat→Addr} {cw:Addr}
end
abbrev qO:Stmt:=ji (top 22) 13
theorem sc_Web_without:FnScope ["self", "places", "out", "place", "names", "kept"] ["self", "places"] (qe qO):=⟨rfl,rfl,rfl,by decide +kernel,rfl,by decide +kernel,by decide +kernel⟩
structure WG (ss:List Str) (ns:List Nat) (dps:List (Str×Str)):Prop where
 tok:TOk ss dps
 adj:Adj ss ns dps
 due:qbb ss ns ss.length=dps
def qee (ss:List Str):List V→Option V
 | []=>none
 | x::r=>if qw ss x=true then qee ss r else some x
def qX (ss:List Str) (xs:List V):List Str:=ss.filter fun s=>!decide (s∈xs.map qG)
def zT (dps:List (Str×Str)) (ks:List Str):List (Str×Str):=dps.filter fun t=>decide (t.1∈ks)&&decide (t.2∈ks)
theorem qdc {a b:Str}:∀ {l:List Str} {j k:Nat},l[j]?=some a→l[k]?=some b→j < k→[a,b].Sublist l
 | [],_,_,h,_,_=>by simp at h
 | x::r,0,k + 1,h1,h2,_=>by
  have e:x=a:=by simpa using h1
  subst e
  have h2:r[k]?=some b:=by simpa using h2
  exact (List.singleton_sublist.mpr (List.mem_of_getElem? h2)).cons₂ x
 | x::r,j + 1,k + 1,h1,h2,h=>(qdc (l:=r) (by simpa using h1) (by simpa using h2) (by omega)).cons x
theorem qdd {a b:Str}:∀ {l:List Str},[a,b].Sublist l→∃ j k:Nat,j < k∧l[j]?=some a∧l[k]?=some b
 | [],h=>by cases h
 | x::r,h=>by
  cases h with
  | cons _ h =>
   obtain ⟨j,k,h1,h2,h3⟩:=qdd h
   exact ⟨j + 1,k + 1,by omega,by simpa using h2,by simpa using h3⟩
  | cons_cons _ h =>
   have hb:=List.singleton_sublist.mp h
   obtain ⟨k,hk⟩:=List.getElem?_of_mem hb
   exact ⟨0,k + 1,by omega,rfl,by simpa using hk⟩
theorem NOk.keep {ss:List Str} (h:NOk ss) (p:Str→Bool):NOk (ss.filter p):=⟨Nat.le_trans (List.length_filter_le _ _) h.few,h.nd.filter _,fun s hs=>h.nm s (List.mem_filter.mp hs).1⟩
theorem TOk.keep {ss:List Str} {dps:List (Str×Str)} (h:TOk ss dps) (p:Str→Bool):TOk (ss.filter p) (zT dps (ss.filter p)):=by
 refine ⟨Nat.le_trans (List.length_filter_le _ _) h.few,fun ab hab=>?_,h.nd.filter _⟩
 obtain ⟨hm,hc⟩:=List.mem_filter.mp hab
 rw [Bool.and_eq_true,decide_eq_true_iff,decide_eq_true_iff] at hc
 obtain ⟨j,k,h1,h2,h3⟩:=h.ok ab hm
 have hs:=(qdc h2 h3 h1).filter p
 have pa:=(List.mem_filter.mp hc.1).2
 have pb:=(List.mem_filter.mp hc.2).2
 rw [List.filter_cons_of_pos pa,List.filter_cons_of_pos pb,List.filter_nil] at hs
 exact qdd hs
def OutK (ss:List Str) (kvs:List (Key×V)) (xs:List V):Prop:=∀ (j:Nat) (s:Str),ss[j]?=some s→(zL kvs (.inl (j:Int):Key)).isSome=decide (s∈xs.map qG)
def qd7 (cc:Nat→Addr) (cw:Addr):Sp:=fun vs H Q E=>∃ (p x:Addr) (ss:List Str) (ns:List Nat) (dps:List (Str×Str)) (v:V) (o:Option (List V)),vs=[.ref x,v]∧WebAt cw H x ss ns∧WG ss ns dps∧Arg p H v o∧(o=none→Rz cc H E (2,v))∧(∀ xs y,o=some xs→qee ss xs=some y→Rz cc H E (2,y)) ∧
 ∀ xs,o=some xs→qee ss xs=none→∀ (x':Addr) (ns':List Nat) (H':Hp),L2.Same H H'→H x'=none→WebN H cw H' x' (qX ss xs) ns'→jN (qX ss xs) ns' (zT dps (qX ss xs))→Q (.ref x') H'
section
variable {P:Program} {w:World} {K:W.Frag} {mg:Str→Option Value} {base:Heap} {cc:Nat→Addr} {cw:Addr}
theorem ok_wout {f:Addr} {fd:FuncData} (F:Fun K "without" "Web.without" qO f fd) (T:Txt K mg cc cw) (D_Web_number_of:MethOk P w K mg base (CX1 P w) 4 cw "number_of" ["self", "place"] (qe1 cc cw)) (D_Web_ties:MethOk P w K mg base CX0 7 cw "ties" ["self"] (qgB cw))
  (D_Web:MakeOk P w K mg base (CX1 P w) 5 cw "Web" ["self", "names", "ties"] (qdr cc cw)) (D_NoPlace:XMakeOk P w K mg base 2 (cc 2) "NoPlace" ["self", "found"] (spX (cc 2) (qaE 2))):FnOk P w K mg base (CX1 P w) 8 f fd ["self", "places"] (qd7 cc cw):=by
 refine F.ok1 sc_Web_without (fun vs H Q E h=>?_) fun cdv A outer s H vs Q E hr h=>?_
 ·obtain ⟨p,x,ss,ns,dps,v,o,rfl,_⟩:=h;rfl
 ·obtain ⟨p,x,ss,ns,dps,v,o,rfl,hW,hG,ha,hz,hz2,q⟩:=h
  have hu:=zX hr
  obtain ⟨dx,d,ol,n,hx,hd,ho,hn,hw⟩:=id hW
  have few:=hw.few
  have num:∀ (H1:Hp) (y:Str) (i:Nat),L2.Same H H1→ss[i]?=some y→DGet H1 d (.str y) (some (.int (i:Nat))):=fun H1 y i s1 gi=>by
   obtain ⟨j,hj,gj,vj⟩:=jM (i:=0) (List.mem_of_getElem? gi)
   rw [Nat.zero_add] at vj
   have hji:j=i:=qA hw.nd gj gi
   subst hji
   have:=DGet.k (k:=Sum.inr y) (s1 _ _ hd)
   rw [vj] at this
   exact this
  refine ⟨_,(qd (jf (jK (jr (qk (qbt (K:=K) rfl) rfl T.b_isinstance boot_isinstance (qa (pv 1) (qa (zh (qa (jQ (v:=.ty "list") rfl T.b_list boot_list rfl) (qa (jQ (v:=.ty "tuple") rfl T.b_tuple boot_tuple rfl) qc))) qc))))) (qf (j4 (K:=K) rfl qZ (qa3 D_NoPlace (hmR hr) (qa (pv 1) qc)))) qv)
 (qd (qo (i:=2) sc_Web_without.nd rfl (Or.inr rfl) qaL)
 (qd (jt PassesOwn.leaving rfl (jo (K:=K) rfl (pv 1)) (qr (i:=3) sc_Web_without.nd rfl (Or.inl rfl))
 (qf (qab zA (qaa (pv 2) (qaM D_Web_number_of (hmR hr) qZ (pv 0) (qa (pv 3) qc)) (qaj hu)))))
 (qd (qo (i:=4) sc_Web_without.nd rfl (Or.inr rfl) (j2 (sc:=qe qO) (XN:=["self", "places", "out", "place", "names", "kept"]) ["name", "out", "self"] 1 [2,0] rfl rfl rfl (by decide +kernel) rfl (by decide +kernel)
  (jo (K:=K) rfl (j3 (K:=K) rfl (pv 0) rfl)) (fun _ _ _ _=>(qr (i:=0) (show (["name", "out", "self"]:List Str).Nodup by decide +kernel) rfl (Or.inl rfl))) jg
  (fun _ _ _ _=>(jD (qt (qbu (K:=K) rfl hu) (qD (qE (K:=K) rfl hu) (j3 (K:=K) rfl (pv 2) rfl) (pv 0) (fun _ _=>rfl)) (pv 1) (by with_unfolding_all rfl))))
  (fun _ _ _ _=>(pv 0))))
 (qd (zV (sc:=qe qO) (XN:=["self", "places", "out", "place", "names", "kept"]) ["tie", "names"] 1 [4] rfl rfl rfl (by decide +kernel) rfl (by decide +kernel) (i:=5) sc_Web_without.nd rfl rfl
  (jo (K:=K) rfl (qa4 D_Web_ties (hmR hr) (pv 0))) (fun _ _ _ _=>(qr (i:=0) (show (["tie", "names"]:List Str).Nodup by decide +kernel) rfl (Or.inl rfl))) jg
  (fun _ _ _ _=>(jD (PW.pt (qbE (qt (qdV (K:=K) rfl hu) (qD (qE (K:=K) rfl hu) (pv 0) qg (fun _ _=>rfl)) (pv 1) (by with_unfolding_all rfl)) (qck (qt (qdV (K:=K) rfl hu) (qD (qE (K:=K) rfl hu) (pv 0) qg (fun _ _=>rfl)) (pv 1) (by with_unfolding_all rfl)))))))
  (fun _ _ _ _=>(pv 0)))
 (qf (qq (pe_makeS D_Web (hmR hr) qZ (qa (pv 4) (qa (pv 5) qc)))))))))),?_⟩
  walk_at "vc"
  refine ⟨by show 2≤sizeLine;decide,fun g hg=>?_⟩
  have s0:=qY (L2.Same.refl H) (o:=.tup [.ty "list",.ty "tuple"]) hg
  walk_at "vc"
  refine (ha.same s0).isi qb ?_
  walk_at "vc"
  cases o with
  | none =>
   refine jk (fun _=>?_) (fun h=>absurd rfl h)
   walk_at "vc"
   exact qU (T.xat 2 (by decide)) ((hz rfl).later s0)
  | some xs =>
   refine jk (fun h=>by cases h) fun _=>?_
   obtain ⟨fewx,hth⟩:=ha.few
   walk_at "vc"
   intro od hod
   have s1:=qY s0 (o:=.dK []) hod
   have hod0:H od=none:=s0.free hod
   walk_at "vc"
   refine qcz ha s1 (fun i σ H'=>∃ (kvs:List (Key×V)) (x3:Option V),σ=[some (.ref x),some v,some (.ref od),x3,none,none]∧L2.Same H H'∧H' od=some (.dK kvs)∧kvs.length≤i∧OutK ss kvs (xs.take i)∧qee ss xs=qee ss (xs.drop i)) ⟨[],none,rfl,s1,qb,Nat.le_refl _,fun j s' _=>by simp [zL],rfl⟩ (fun i σ H' hp=>by obtain ⟨_,_,_,z,_⟩:=hp;exact z) (fun i y σ H1 hy hp=>?_) fun σ H1 hp=>?_
   ·obtain ⟨kvs,x3,rfl,s2,hk,hkl,hout,hfr⟩:=hp
    have hil:i < xs.length:=(List.getElem?_eq_some_iff.mp hy).1
    have htk:xs.take (i + 1)=xs.take i++[y]:=by rw [List.take_add_one,hy];rfl
    rw [drop_at hy] at hfr
    have hfr:qee ss xs=if qw ss y=true then qee ss (xs.drop (i + 1)) else some y:=hfr
    walk_at "vc"
    refine ⟨x,dx,_,rfl,s2 _ _ hx,qba (by decide +kernel),?_⟩
    walk_at "vc"
    refine ⟨p,2,x,ss,ns,y,rfl,hW.same s2,(hth y (List.mem_of_getElem? hy)).same s2,(fun h=>(hz2 xs y rfl (by rw [hfr,if_neg (by rw [h];exact Bool.false_ne_true)])).later s2),fun j gj hpl H2 s12=>?_⟩
    rw [if_pos hpl] at hfr
    walk_at "vc"
    refine .inr ⟨od,_,rfl,DPut.k (k:=Sum.inl (j:Int)) (s12 _ _ hk) (qh (by omega)),?_⟩
    refine ⟨_,_,rfl,qeY (s2.trans s12) hod0,qb,?_,fun j' s' gj'=>?_,hfr⟩
    ·have:=zU kvs (Sum.inl (j:Int):Key) (V.bl true)
     omega
    ·rw [valV_put,htk,List.map_append]
     by_cases e:j'=j
     ·subst e
      rw [if_pos rfl]
      have:s'=qG y:=by rw [gj'] at gj;exact Option.some.inj gj
      simp [this]
     ·rw [if_neg (fun z=>e (by have:=Sum.inl.inj z;omega)),hout j' s' gj']
      have hne:¬ s'=qG y:=fun z=>e (qA hw.nd (by rw [z] at gj';exact gj') gj)
      simp [hne]
   ·obtain ⟨kvs,x3,rfl,s2,hk,hkl,hout,hfr⟩:=hp
    rw [List.drop_length] at hfr
    rw [List.take_length] at hout
    have hfr:qee ss xs=none:=hfr
    have q:=q xs rfl hfr
    have eks:qX ss xs=ss.filter fun s=>!decide (s∈xs.map qG):=rfl
    walk_at "vc"
    refine .inl ⟨x,cw,dx,_,.ref ol,rfl,s2 _ _ hx,T.wcl,T.wo,qaO,?_⟩
    refine .inl ⟨⟨_,SqL.of (s2 _ _ ho)⟩,jm (K:=K) (fun i ys H'=>H'=H1∧ys=((ss.take i).filter fun s=>!decide (s∈xs.map qG)).map V.str) ⟨rfl,by simp⟩ (fun i ys H' _ hp=>by rw [hp.1];exact SqL.of (s2 _ _ ho)) (fun i y ys H' hy hp=>?_) fun ys H' hp=>?_⟩
    ·obtain ⟨rfl,rfl⟩:=hp
     obtain ⟨sy,gi,rfl⟩:=str_eq_list hy
     have hi:i < ss.length:=(List.getElem?_eq_some_iff.mp gi).1
     have htk:ss.take (i + 1)=ss.take i++[sy]:=by rw [List.take_add_one,gi];rfl
     walk_at "vc"
     refine .inl ⟨x,cw,dx,_,.ref d,rfl,s2 _ _ hx,T.wcl,T.wn,jY,?_⟩
     walk_at "vc"
     refine .inr ⟨d,.int i,rfl,num _ sy i s2 gi,?_⟩
     walk_at "vc"
     refine .inr (.inl ⟨od,_,rfl,DGet.k (k:=Sum.inl (i:Int)) hk,?_⟩)
     rw [hout i sy gi]
     walk_at "vc"
     refine jk (fun hb=>?_) fun hb=>?_
     ·walk_at "vc"
      have hb':sy∉xs.map qG:=by simpa using hb
      refine ⟨by rw [List.length_map];exact qh (Nat.le_trans (List.length_filter_le _ _) (by rw [List.length_take];omega)),rfl,?_⟩
      have ef:([sy].filter fun s=>!decide (s∈xs.map qG))=[sy]:=by rw [List.filter_cons_of_pos (by rw [decide_eq_false hb'];rfl)];rfl
      rw [htk,List.filter_append,List.map_append,ef]
      rfl
     ·have hb':sy∈xs.map qG:=by simpa using hb
      refine ⟨rfl,?_⟩
      have ef:([sy].filter fun s=>!decide (s∈xs.map qG))=[]:=by rw [List.filter_cons_of_neg (by rw [decide_eq_true hb'];decide)];rfl
      rw [htk,List.filter_append,List.map_append,ef]
      simp
    ·obtain ⟨rfl,rfl⟩:=hp
     have etk:ss.take (ss.map V.str).length=ss:=by rw [List.length_map,List.take_length]
     rw [etk,← eks]
     have hO:NOk (qX ss xs):=NOk.keep ⟨hw.few,hw.nd,hw.nm⟩ _
     have hT:TOk (qX ss xs) (zT dps (qX ss xs)):=TOk.keep hG.tok _
     generalize qX ss xs=ks at q hO hT ⊢
     refine ⟨by rw [List.length_map];exact Nat.le_of_lt (qh (by have:=hO.few;omega)),fun c hc=>?_⟩
     have s3:=qY s2 (o:=.lst (ks.map V.str)) hc
     have ec:upd H' c (.lst (ks.map V.str)) c=some (.lst (ks.map V.str)):=qb
     generalize upd H' c (.lst (ks.map V.str))=H3 at s3 ec ⊢
     walk_at "vc"
     refine ⟨x,dx,_,rfl,s3 _ _ hx,qba (by decide +kernel),?_⟩
     walk_at "vc"
     refine ⟨x,ss,ns,rfl,hW.same s3,fun l ts H4 s34 hl0 hl hts hall=>?_⟩
     rw [hG.due] at hall
     have s4:=s3.trans s34
     have ec4:=s34 _ _ ec
     have hpr:All2 (fun t ab=>H4 t=some (.tup [.str ab.1,.str ab.2])) ts dps:=hall.mono fun _ _ z=>z.2.2
     have hdl:ts.length=dps.length:=hpr.len
     have h30:=hG.tok.few
     refine .inl ⟨⟨_,SqL.of hl⟩,jm (K:=K) (fun i ys H'=>H'=H4∧∃ us:List Addr,ys=us.map V.ref∧us.length≤i∧All2 (fun t ab=>H4 t=some (.tup [.str ab.1,.str ab.2])) us (zT (dps.take i) ks)) ⟨rfl,[],rfl,Nat.le_refl _,All2.nil⟩ (fun i ys H' _ hp=>by rw [hp.1];exact SqL.of hl) (fun i y ys H' hy hp=>?_) fun ys H' hp=>?_⟩
     ·obtain ⟨rfl,us,rfl,hul,hus⟩:=hp
      rw [List.getElem?_map] at hy
      cases hx':ts[i]? with
      | none=>rw [hx'] at hy;cases hy
      | some t =>
       rw [hx'] at hy
       cases hy
       have hi:i < dps.length:=by rw [← hdl];exact (List.getElem?_eq_some_iff.mp hx').1
       have gi:dps[i]?=some dps[i]:=List.getElem?_eq_getElem hi
       have et:=hpr.at_ i t dps[i] hx' gi
       generalize dps[i]=ab at gi et
       have htk:dps.take (i + 1)=dps.take i++[ab]:=by rw [List.take_add_one,gi];rfl
       have ekt:zT (dps.take (i + 1)) ks=zT (dps.take i) ks++(if decide (ab.1∈ks)&&decide (ab.2∈ks) then [ab] else []):=by
        unfold zT
        rw [htk,List.filter_append]
        congr 1
        rw [List.filter_cons]
        rfl
       rw [ekt]
       walk_at "vc"
       refine .inl (qes et rfl ?_)
       walk_at "vc"
       refine .inl ⟨c,_,rfl,.inl (SqL.of ec4),rfl,qca ks,?_⟩
       rw [qd2]
       walk_at "vc"
       refine jk (fun hb=>?_) fun hb=>?_
       ·have hb1:ab.1∈ks:=by simpa using hb
        walk_at "vc"
        refine .inl (qes et rfl ?_)
        walk_at "vc"
        refine .inl ⟨c,_,rfl,.inl (SqL.of ec4),rfl,qca ks,?_⟩
        rw [qd2]
        walk_at "vc"
        refine jk (fun hb=>?_) fun hb=>?_
        ·have hb2:ab.2∈ks:=by simpa using hb
         walk_at "vc"
         refine ⟨by rw [List.length_map];exact qh (by omega),rfl,us++[t],by rw [List.map_append];rfl,by rw [List.length_append];show us.length + 1≤_;omega,?_⟩
         rw [if_pos (by simp [hb1,hb2])]
         exact hus.snoc et
        ·have hb2:ab.2∉ks:=by simpa using hb
         refine ⟨rfl,us,rfl,by omega,?_⟩
         rw [if_neg (by simp [hb2]),List.append_nil]
         exact hus
       ·have hb1:ab.1∉ks:=by simpa using hb
        refine jk (fun h=>by cases h) fun _=>?_
        refine ⟨rfl,us,rfl,by omega,?_⟩
        rw [if_neg (by simp [hb1]),List.append_nil]
        exact hus
     ·obtain ⟨rfl,us,rfl,hul,hus⟩:=hp
      have etk:dps.take (ts.map V.ref).length=dps:=by rw [List.length_map,hdl,List.take_length]
      rw [etk] at hus
      rw [List.length_map] at hul
      refine ⟨by rw [List.length_map];exact Nat.le_of_lt (qh (by omega)),fun e he=>?_⟩
      have s45:=qY (L2.Same.refl H') (o:=.lst (us.map V.ref)) he
      have s5:=s4.trans s45
      walk_at "vc"
      intro x' dx' hx' hdx' hne'
      exact qdb (s45 _ _ ec4) qb (hus.mono fun _ _ z=>s45 _ _ z) hO hT (Shuf.self _) hx' hdx' hne'.symm fun ns' H6 s56 hWN hb=>⟨rfl,q x' ns' H6 (s5.trans s56) (s5.free hx') (hWN.old s5) hb⟩
end
abbrev zN:Stmt:=top 30
theorem sc_l_cell:FnScope ["_law_script", "_law_k"] ["_law_script", "_law_k"] (qe zN):=⟨rfl,rfl,rfl,by decide +kernel,rfl,by decide +kernel,by decide +kernel⟩
abbrev zk:Stmt:=top 31
theorem sc_l_purse:FnScope ["_law_cell_here"] ["_law_cell_here"] (qe zk):=⟨rfl,rfl,rfl,by decide +kernel,rfl,by decide +kernel,by decide +kernel⟩
abbrev zO:Stmt:=top 32
theorem sc_l_take:FnScope ["_law_purse_here", "_law_many_here", "_law_digit", "_law_number"] ["_law_purse_here", "_law_many_here"] (qe zO):=⟨rfl,rfl,rfl,by decide +kernel,rfl,by decide +kernel,by decide +kernel⟩
abbrev zP:Stmt:=top 35
theorem sc_l_many:FnScope ["_law_purse_here", "_law_most"] ["_law_purse_here", "_law_most"] (qe zP):=⟨rfl,rfl,rfl,by decide +kernel,rfl,by decide +kernel,by decide +kernel⟩
def qgD (K:W.Frag):Sp:=fun vs H Q _=>∃ (a:Addr) (ns:List Int) (k:Nat),vs=[.ref a,.int (k:Int)]∧SqL K H a (ns.map V.int)∧k < 1000∧∀ i:Int,Q (.int i) H
def Pu (H:Hp) (p:Addr):Prop:=∃ a b c:Int,H p=some (.lst [.int a,.int b,.int c])∧0≤a∧0≤b∧b < 2147483629∧0≤c
def qgE:Sp:=fun vs H Q _=>∃ c:Int,vs=[.int c]∧∀ (p:Addr) (H':Hp),L2.Same H H'→H p=none→Pu H' p→Q (.ref p) H'
def qcE:Sp:=fun vs H Q _=>∃ (p:Addr) (m:Nat),vs=[.ref p,.int (m:Int)]∧Pu H p∧0 < m∧m < 1000∧∀ (d:Nat) (H':Hp),d < m→But p H H'→Pu H' p→Q (.int (d:Int)) H'
def qfB:Sp:=fun vs H Q _=>∃ (p:Addr) (m:Nat),vs=[.ref p,.int (m:Int)]∧Pu H p∧m≤14∧∀ (d:Nat) (H':Hp),d≤14→But p H H'→Pu H' p→Q (.int (d:Int)) H'
theorem But.trans7 {p:Addr} {H H1 H2:Hp} (a:But p H H1) (b:But p H1 H2):But p H H2:=fun c o n e=>b c o n (a c o n e)
theorem But.new7 {p l:Addr} {H H1:Hp} {o:HO} (a:But p H H1) (hl:H1 l=none):But p H (upd H1 l o):=fun c u n e=>by
 have:=a c u n e
 have ne:c≠l:=fun z=>by rw [z,hl] at this;cases this
 rw [qi ne];exact this
theorem But.free7 {p l:Addr} {H H1:Hp} (a:But p H H1) (hn:l≠p) (hl:H1 l=none):H l=none:=by
 cases e:H l with
 | none=>rfl
 | some o=>rw [a l o hn e] at hl;cases hl
abbrev iV (k:Nat):V:=.int (k:Int)
section
variable {P:Program} {w:World} {K:W.Frag} {mg:Str→Option Value} {base:Heap} {cc:Nat→Addr} {cw:Addr}
theorem ok_ce {f:Addr} {fd:FuncData} (F:Fun K "_law_cell" "_law_cell" zN f fd) (T:Txt K mg cc cw):FnOk P w K mg base CX0 1 f fd ["_law_script", "_law_k"] (qgD K):=by
 refine F.ok sc_l_cell (fun vs H Q E h=>?_) fun cdv A outer s H vs Q E hr h=>?_
 ·obtain ⟨a,ns,k,rfl,_⟩:=h;rfl
 ·obtain ⟨a,ns,k,rfl,hS,h1,q⟩:=h
  have hu:=zX hr
  refine ⟨_,(qd (jf (qt qdz (pv 1) (qk (jT (K:=K) rfl) rfl T.b_len boot_len (qa (pv 0) qc)) (qB _)) (qf (qq (qD (qE (K:=K) rfl hu) (pv 0) (pv 1) (fun _ _=>rfl)))) qv)
 (qf (qq (qp (jU (K:=K) rfl) (qp qbV qg (pv 1)) qg)))),?_⟩
  walk_at "vc"
  refine vLenLs hS ?_
  rw [List.length_map]
  walk_at "vc"
  by_cases hk:k < ns.length
  ·rw [decide_eq_true (show (k:Int) < (ns.length:Int) by omega)]
   refine qcg ?_
   walk_at "vc"
   refine .inl (vIxLs hS (v:=.int ns[k]) (qH (by rw [List.getElem?_map,List.getElem?_eq_getElem hk];rfl)) ?_)
   exact q _
  ·rw [decide_eq_false (show ¬ (k:Int) < (ns.length:Int) by omega)]
   refine jk (fun h=>by cases h) fun _=>?_
   walk_at "vc"
   refine qbW (.inl ⟨by decide,by decide⟩) ?_
   walk_at "vc"
   exact q _
theorem ok_pu {f:Addr} {fd:FuncData} (F:Fun K "_law_purse" "_law_purse" zk f fd) (T:Txt K mg cc cw):FnOk P w K mg base CX0 1 f fd ["_law_cell_here"] qgE:=by
 refine F.ok sc_l_purse (fun vs H Q E h=>?_) fun cdv A outer s H vs Q E hr h=>?_
 ·obtain ⟨c,rfl,_⟩:=h;rfl
 ·obtain ⟨c,rfl,q⟩:=h
  refine ⟨_,(qf (qq (qK (qa (qk (qbH rfl) rfl T.b_max boot_max (qa qg (qa (qp qaU (pv 0) (qp op_pow qg qg)) qc))) (qa (qp jR (pv 0) qg) (qa qg qc)))))),?_⟩
  walk_at "vc"
  refine vI ⟨by decide,by decide,by decide⟩ ?_
  walk_at "vc"
  refine ⟨_,_,rfl,?_⟩
  walk_at "vc"
  refine vI (by decide) ?_
  walk_at "vc"
  refine ⟨by show 3≤sizeLine;decide,fun p hp=>?_⟩
  have h1:=Int.emod_nonneg c (show (2147483629:Int)≠0 by decide)
  have h2:=Int.emod_lt_of_pos c (show (0:Int) < 2147483629 by decide)
  exact q p _ (qY (L2.Same.refl H) hp) hp ⟨_,_,_,qb,by split<;>omega,h1,h2,by decide⟩
theorem ok_tkp {f:Addr} {fd:FuncData} (F:Fun K "_law_take" "_law_take" zO f fd) (T:Txt K mg cc cw):FnOk P w K mg base CX0 1 f fd ["_law_purse_here", "_law_many_here"] qcE:=by
 refine F.ok sc_l_take (fun vs H Q E h=>?_) fun cdv A outer s H vs Q E hr h=>?_
 ·obtain ⟨p,m,rfl,_⟩:=h;rfl
 ·obtain ⟨p,m,rfl,⟨a,b,c,hp,ha,hb,hb2,hc⟩,h0,h1,q⟩:=h
  have hu:=zX hr
  have hm:(0:Int) < (m:Int):=by omega
  refine ⟨_,(qd (qab (qp (jU (K:=K) rfl) (qD (qE (K:=K) rfl hu) (pv 0) qg (fun _ _=>rfl)) qg) (qaa (pv 0) qg (qaj hu)))
 (qd (jf (qt qeT (qD (qE (K:=K) rfl hu) (pv 0) qg (fun _ _=>rfl)) qg (qB _)) (qd (qo (i:=2) sc_l_take.nd rfl (Or.inl rfl) (qp jR (qD (qE (K:=K) rfl hu) (pv 0) qg (fun _ _=>rfl)) (pv 1)))
 (qd (qab (qp qdy (qD (qE (K:=K) rfl hu) (pv 0) qg (fun _ _=>rfl)) (pv 1)) (qaa (pv 0) qg (qaj hu)))
 (qf (qq (pv 2))))) qv)
 (qd (qo (i:=3) sc_l_take.nd rfl (Or.inl rfl) (qp jR (qp (jU (K:=K) rfl) (qp (jU (K:=K) rfl) (qp qbV (qD (qE (K:=K) rfl hu) (pv 0) qg (fun _ _=>rfl)) qg) (qp qbV qg (qD (qE (K:=K) rfl hu) (pv 0) qg (fun _ _=>rfl)))) qg) qg))
 (qd (qo (i:=3) sc_l_take.nd rfl (Or.inl rfl) (qp jR (qp qbV (pv 3) (pv 3)) qg))
 (qd (qo (i:=3) sc_l_take.nd rfl (Or.inl rfl) (qp jR (qp qbV (qp (jU (K:=K) rfl) (pv 3) (qp qbV qg (qD (qE (K:=K) rfl hu) (pv 0) qg (fun _ _=>rfl)))) qg) qg))
 (qf (qq (qp jR (qp qdy (qp jR (qp qbV (pv 3) (pv 3)) qg) qg) (pv 1))))))))),?_⟩
  walk_at "vc"
  refine .inl (zZ hp rfl ?_)
  walk_at "vc"
  refine .inl (qdo hp rfl ?_)
  have b1:But p H (upd H p (.lst [.int a,.int b,.int (c + 1)])):=fun x o n e=>by rw [qi n];exact e
  have hp1:upd H p (.lst [.int a,.int b,.int (c + 1)]) p=some (.lst [.int a,.int b,.int (c + 1)]):=qb
  have eu:upd H p (.lst (([V.int a,.int b,.int c]).set (2:Int).toNat (.int (c + 1))))=upd H p (.lst [.int a,.int b,.int (c + 1)]):=rfl
  walk_at "vc"
  rw [eu]
  generalize upd H p (.lst [.int a,.int b,.int (c + 1)])=H1 at b1 hp1
  refine .inl (zZ hp1 rfl ?_)
  walk_at "vc"
  refine jk (fun hd=>?_) (fun hd=>?_)
  ·walk_at "vc"
   refine .inl (zZ hp1 rfl ?_)
   walk_at "vc"
   refine vI hm ?_
   walk_at "vc"
   refine .inl (zZ hp1 rfl ?_)
   walk_at "vc"
   refine vI ⟨hm,by omega⟩ ?_
   walk_at "vc"
   refine .inl (qdo hp1 rfl ?_)
   walk_at "vc"
   have e1:=Int.emod_nonneg a (show (m:Int)≠0 by omega)
   have e2:=Int.emod_lt_of_pos a hm
   have e3:a % (m:Int)=(((a % (m:Int)).toNat:Nat):Int):=by omega
   rw [e3]
   exact q _ _ (by omega) (fun x o n e=>by rw [qi n];exact b1 x o n e) ⟨_,_,_,qb,Int.ediv_nonneg ha (by omega),hb,hb2,by omega⟩
  ·walk_at "vc"
   refine .inl (zZ hp1 rfl ?_)
   walk_at "vc"
   refine qbW (.inr ⟨by decide,by decide⟩) ?_
   walk_at "vc"
   refine .inl (zZ hp1 rfl ?_)
   walk_at "vc"
   refine qbW (.inl ⟨by decide,by decide⟩) ?_
   walk_at "vc"
   refine vI (by decide) ?_
   walk_at "vc"
   generalize hn1:(b * 48271 + 7919 * (c + 1) + 11) % 2147483647=n1
   have hn1a:0≤n1:=by rw [← hn1];exact Int.emod_nonneg _ (by decide)
   have hn1b:n1 < 2147483647:=by rw [← hn1];exact Int.emod_lt_of_pos _ (by decide)
   refine qbW (.inl ⟨by omega,by omega⟩) ?_
   walk_at "vc"
   refine vI (by decide) ?_
   walk_at "vc"
   generalize hn2:n1 * n1 % 2147483629=n2
   refine .inl (zZ hp1 rfl ?_)
   walk_at "vc"
   refine qbW (.inl ⟨by decide,by decide⟩) ?_
   walk_at "vc"
   refine qbW (.inr ⟨by decide,by decide⟩) ?_
   walk_at "vc"
   refine vI (by decide) ?_
   walk_at "vc"
   generalize hn3:(n2 + 31 * (c + 1)) * 69621 % 2147483587=n3
   have hn3a:0≤n3:=by rw [← hn3];exact Int.emod_nonneg _ (by decide)
   have hn3b:n3 < 2147483587:=by rw [← hn3];exact Int.emod_lt_of_pos _ (by decide)
   refine qbW (.inl ⟨by omega,by omega⟩) ?_
   walk_at "vc"
   refine vI (by decide) ?_
   walk_at "vc"
   refine vI ⟨by decide,by decide⟩ ?_
   walk_at "vc"
   refine vI hm ?_
   generalize n3 * n3 % 2147483579 / 8=n4
   have e1:=Int.emod_nonneg n4 (show (m:Int)≠0 by omega)
   have e2:=Int.emod_lt_of_pos n4 hm
   have e3:n4 % (m:Int)=(((n4 % (m:Int)).toNat:Nat):Int):=by omega
   rw [e3]
   exact q _ _ (by omega) b1 ⟨_,_,_,hp1,ha,hb,hb2,by omega⟩
theorem ok_my {f:Addr} {fd:FuncData} (F:Fun K "_law_many" "_law_many" zP f fd) (T:Txt K mg cc cw) (D_l_take:DefOk P w K mg base CX0 1 "_law_take" ["_law_purse_here", "_law_many_here"] qcE):FnOk P w K mg base CX0 2 f fd ["_law_purse_here", "_law_most"] qfB:=by
 refine F.ok sc_l_many (fun vs H Q E h=>?_) fun cdv A outer s H vs Q E hr h=>?_
 ·obtain ⟨p,m,rfl,_⟩:=h;rfl
 ·obtain ⟨p,m,rfl,hB,hm,q⟩:=h
  have hu:=zX hr
  refine ⟨_,(qf (qq (qu D_l_take (hmR hr) qC (qa (pv 0) (qa (qD (qE (K:=K) rfl hu) (qK (qa qg (qa qg (qa qg (qa qg (qa qg (qa qg (qa qg (qa (qp (jU (K:=K) rfl) (pv 1) qg) qc))))))))) (qu D_l_take (hmR hr) qC (qa (pv 0) (qa qg qc))) (fun _ _=>rfl)) qc))))),?_⟩
  walk_at "vc"
  obtain ⟨a,b,c,hp,hr4⟩:=id hB
  refine ⟨by show 8≤sizeLine;decide,fun e he0=>?_⟩
  have hep:p≠e:=fun z=>by rw [← z,hp] at he0;cases he0
  obtain ⟨xs,hxs⟩:∃ xs:List Nat,xs=[3,5,7,8,8,9,9,m + 1]:=⟨_,rfl⟩
  have b1:But p H (upd H e (.lst (xs.map iV))):=But.new7 (fun x o _ z=>z) he0
  have ee:upd H e (.lst (xs.map iV)) e=some (.lst (xs.map iV)):=qb
  have hB1:Pu (upd H e (.lst (xs.map iV))) p:=⟨a,b,c,by rw [qi hep];exact hp,hr4⟩
  have eu:upd H e (.lst [V.int 3,.int 5,.int 7,.int 8,.int 8,.int 9,.int 9,.int ((m:Int) + 1)])=upd H e (.lst (xs.map iV)):=by rw [hxs];rfl
  have hx1:∀ x∈xs,0 < x∧x≤15:=fun x hx=>by
   rw [hxs] at hx
   simp only [List.mem_cons,List.not_mem_nil,or_false] at hx
   omega
  have hx8:xs.length=8:=by rw [hxs];rfl
  rw [eu]
  generalize upd H e (.lst (xs.map iV))=H1 at b1 ee hB1
  walk_at "vc"
  refine ⟨p,8,rfl,hB1,by decide,by decide,fun d H2 hd b2 hB2=>?_⟩
  obtain ⟨x,hx⟩:∃ x,xs[d]?=some x:=⟨_,List.getElem?_eq_getElem (by omega)⟩
  have hx2:=hx1 x (List.mem_of_getElem? hx)
  refine .inl (zZ (b2 _ _ hep.symm ee) (v:=iV x) (qH (by rw [List.getElem?_map,hx];rfl)) ?_)
  walk_at "vc"
  exact ⟨p,x,rfl,hB2,hx2.1,by omega,fun d2 H3 hd2 b3 hB3=>q d2 H3 (by omega) ((b1.trans7 b2).trans7 b3) hB3⟩
end
abbrev j7:Stmt:=top 33
theorem sc_l_names:FnScope ["_law_purse_here", "_law_many_here", "_law_letters", "_law_first", "_law_step", "_law_way", "_law_stem", "_law_found", "_law_k", "_law_sign"] ["_law_purse_here", "_law_many_here"] (qe j7):=⟨rfl,rfl,rfl,by decide +kernel,rfl,by decide +kernel,by decide +kernel⟩
theorem qaA {X:L2.Cx} {st:List PySem.Stmt} {t:L2.TS} (t':L2.TS) (h:L2.PSs X st t) (k:∀ D σ H,t' D σ H→t D σ H):L2.PSs X st t':=fun pins s σ H D I q=>h pins s σ H D I (k D σ H q)
def stepsJ:List Nat:=[1,3,5,7,9,11]
def cJ (first step j:Nat):Nat:=97 + (first + step * j) % 26
theorem cJ_sg (first step j:Nat):sg (cJ first step j)=true:=by unfold cJ;exact qfA (by omega) (by omega)
theorem qeL {first step:Nat} (hs:step∈stepsJ) {j k:Nat} (hj:j < 14) (hk:k < 14) (e:cJ first step j=cJ first step k):j=k:=by
 unfold cJ at e
 simp only [stepsJ,List.mem_cons,List.not_mem_nil,or_false] at hs
 rcases hs with rfl | rfl | rfl | rfl | rfl | rfl<;>omega
def NmJ (way first step j:Nat) (s:Str):Prop:=zy s=true∧if way=2 then s.cps.toList.head?=some (cJ first step j) else s.cps.toList.getLast?=some (cJ first step j)
theorem NmJ.inj {way first step:Nat} (hs:step∈stepsJ) {j k:Nat} {s:Str} (hj:j < 14) (hk:k < 14) (h:NmJ way first step j s) (g:NmJ way first step k s):j=k:=by
 have h2:=h.2
 have g2:=g.2
 by_cases hw:way=2
 ·rw [if_pos hw] at h2 g2
  rw [h2] at g2
  exact qeL hs hj hk (Option.some.inj g2)
 ·rw [if_neg hw] at h2 g2
  rw [h2] at g2
  exact qeL hs hj hk (Option.some.inj g2)
theorem jI (a b:Int):(if false=true then !eqV (V.int a) (V.int b) else eqV (V.int a) (V.int b))=decide (a=b):=by
 rw [if_neg (by decide)]
 unfold eqV
 by_cases h:a=b<;>simp [h]
def qfC:Sp:=fun vs H Q _=>∃ (p:Addr) (m:Nat),vs=[.ref p,.int (m:Int)]∧Pu H p∧m≤14∧∀ (l:Addr) (ss:List Str) (H':Hp),But p H H'→Pu H' p→H l=none→l≠p→H' l=some (.lst (ss.map V.str))→NOk ss→ss.length=m→Q (.ref l) H'
theorem Pu.new {H:Hp} {p l:Addr} {o:HO} (h:Pu H p) (hl:H l=none):Pu (upd H l o) p:=by
 obtain ⟨a,b,c,e,r⟩:=h
 have ne:p≠l:=fun z=>by rw [← z,e] at hl;cases hl
 exact ⟨a,b,c,by rw [qi ne];exact e,r⟩
theorem Pu.apart {H:Hp} {p l:Addr} (h:Pu H p) (hl:H l=none):l≠p:=fun z=>by obtain ⟨a,b,c,e,r⟩:=h;rw [z,e] at hl;cases hl
section
variable {P:Program} {w:World} {K:W.Frag} {mg:Str→Option Value} {base:Heap} {cc:Nat→Addr} {cw:Addr}
theorem ok_nmJ {f:Addr} {fd:FuncData} (F:Fun K "_law_names" "_law_names" j7 f fd) (T:Txt K mg cc cw) (D_l_take:DefOk P w K mg base CX0 1 "_law_take" ["_law_purse_here", "_law_many_here"] qcE):FnOk P w K mg base CX0 2 f fd ["_law_purse_here", "_law_many_here"] qfC:=by
 refine F.ok sc_l_names (fun vs H Q E h=>?_) fun cdv A outer s H vs Q E hr h=>?_
 ·obtain ⟨p,m,rfl,_⟩:=h;rfl
 ·obtain ⟨p,m,rfl,hB,hm,q⟩:=h
  have hu:=zX hr
  obtain ⟨TC5,hTC5⟩:∃ t:TS,t=fun D σ H'=>(∀ u H',Q u H'→D.rt u H')∧∃ (x7 x8 x9:Option V) (way first step:Nat) (stem:Str),σ=[some (.ref p),some (.int (m:Int)),some (.str L26),some (.int (first:Int)),some (.int (step:Int)),some (.int (way:Int)),some (.str stem),x7,x8,x9]∧But p H H'∧Pu H' p∧step∈stepsJ∧stem.length=5∧stem.cps.toList.all sg=true:=⟨_,rfl⟩
  refine ⟨_,(qd (qo (i:=2) sc_l_names.nd rfl (Or.inr rfl) jJ)
 (qd (qo (i:=3) sc_l_names.nd rfl (Or.inl rfl) (qu D_l_take (hmR hr) qC (qa (pv 0) (qa qg qc))))
 (qd (qo (i:=4) sc_l_names.nd rfl (Or.inl rfl) (qD (qE (K:=K) rfl hu) (qK (qa qg (qa qg (qa qg (qa qg (qa qg (qa qg qc))))))) (qu D_l_take (hmR hr) qC (qa (pv 0) (qa qg qc))) (fun _ _=>rfl)))
 (qd (qo (i:=5) sc_l_names.nd rfl (Or.inl rfl) (qu D_l_take (hmR hr) qC (qa (pv 0) (qa qg qc))))
 (qd (qo (i:=6) sc_l_names.nd rfl (Or.inl rfl) (qdt (K:=K) rfl PySem.F.plainAttrs_str PySem.F.slot_str_join PySem.F.type_str_join (k_join (K:=K) rfl) jJ (qa (j2 (sc:=qe j7) (XN:=["_law_purse_here", "_law_many_here", "_law_letters", "_law_first", "_law_step", "_law_way", "_law_stem", "_law_found", "_law_k", "_law_sign"]) ["_law_k", "_law_letters", "_law_purse_here"] 1 [2,0] rfl rfl rfl (by decide +kernel) rfl (by decide +kernel)
  (qT rfl T.b_range (qa qg qc)) (fun _ _ _ _=>(qr (i:=0) (show (["_law_k", "_law_letters", "_law_purse_here"]:List Str).Nodup by decide +kernel) rfl (Or.inl rfl))) jg
  (fun _ _ _ _=>zp)
  (fun _ _ _ _=>(qD (qE (K:=K) rfl hu) (pv 1) (qu D_l_take (hmR hr) qC (qa (pv 2) (qa qg qc))) (fun _ _=>rfl)))) qc)))
 (qaA TC5 (qd (qo (i:=7) sc_l_names.nd rfl (Or.inl rfl) (qK qc))
 (qd (jt PassesOwn.never rfl (qT rfl T.b_range (qa (pv 1) qc)) (qr (i:=8) sc_l_names.nd rfl (Or.inl rfl))
 (qd (qo (i:=9) sc_l_names.nd rfl (Or.inl rfl) (qD (qE (K:=K) rfl hu) (pv 2) (qp jR (qp (jU (K:=K) rfl) (pv 3) (qp qbV (pv 4) (pv 8))) qg) (fun _ _=>rfl)))
 (qf (jf (qt (za (K:=K) rfl hu) (pv 5) qg (qB _)) (qf (qR (qdt (K:=K) rfl PySem.F.plainAttrs_list PySem.F.slot_list_append PySem.F.type_list_append q8 (pv 7) (qa (pv 9) qc)))) (qf (jf (qt (za (K:=K) rfl hu) (pv 5) qg (qB _)) (qf (qR (qdt (K:=K) rfl PySem.F.plainAttrs_list PySem.F.slot_list_append PySem.F.type_list_append q8 (pv 7) (qa (qp (jU (K:=K) rfl) (jG (qec (K:=K) rfl) (pv 6) ze (j1 qg)) (pv 9)) qc)))) (qf (jf (qt (za (K:=K) rfl hu) (pv 5) qg (qB _)) (qf (qR (qdt (K:=K) rfl PySem.F.plainAttrs_list PySem.F.slot_list_append PySem.F.type_list_append q8 (pv 7) (qa (qp (jU (K:=K) rfl) (pv 9) (jG (qec (K:=K) rfl) (pv 6) ze (j1 (qp jR (pv 8) qg)))) qc)))) (qf (qR (qdt (K:=K) rfl PySem.F.plainAttrs_list PySem.F.slot_list_append PySem.F.type_list_append q8 (pv 7) (qa (qp (jU (K:=K) rfl) (jG (qec (K:=K) rfl) (pv 6) ze (j1 (qp jR (pv 8) qg))) (pv 9)) qc))))))))))))
 (qf (qq (pv 7))))) ?cut5)))))),?_⟩
  case cut5 =>
   intro D σ H1 h
   rw [hTC5] at h
   obtain ⟨hD,x7,x8,x9,way,first,step,stem,rfl,b1,hB1,hst,lstem,astem⟩:=h
   have lS:stem.cps.toList.length=5:=by rw [← lstem];simp [Str.length]
   have tkS:∀ k,(stem.cps.toList.take k).all sg=true:=fun k=>List.all_eq_true.mpr fun c hc=>List.all_eq_true.mp astem c (List.mem_of_mem_take hc)
   have hsl:∀ k:Nat,(Txt.slice stem none (some (k:Int))).length=min k 5:=fun k=>by
    have:(Txt.slice stem none (some (k:Int))).length=(Txt.slice stem none (some (k:Int))).cps.toList.length:=by simp [Str.length]
    rw [this,qaz,List.length_take,lS]
   have hsb:0 < step∧step≤11:=by
    have h:=hst
    simp only [stepsJ,List.mem_cons,List.not_mem_nil,or_false] at h
    omega
   walk_at "vc"
   refine ⟨by show 0≤sizeLine;decide,fun l hl=>?_⟩
   have hlp:=hB1.apart hl
   walk_at "vc"
   refine ⟨(m:Int),rfl,by omega,by omega,?_⟩
   rw [Int.toNat_natCast]
   refine jL (lo:=0) (n:=m) (fun i σ H'=>∃ (ss:List Str) (x8 x9:Option V),σ=[some (.ref p),some (.int (m:Int)),some (.str L26),some (.int (first:Int)),some (.int (step:Int)),some (.int (way:Int)),some (.str stem),some (.ref l),x8,x9]∧H'=upd H1 l (.lst (ss.map V.str))∧ss.length=i∧∀ (j:Nat) s,ss[j]?=some s→NmJ way first step j s) ⟨[],_,_,rfl,rfl,rfl,fun j s h=>by simp at h⟩ (fun i σ H' hi hp=>?_) fun σ H' hp=>?_
   ·obtain ⟨ss,x8,x9,rfl,rfl,hsl0,hss⟩:=hp
    have hl2:upd H1 l (.lst (ss.map V.str)) l=some (.lst (ss.map V.str)):=qb
    rw [Int.zero_add]
    walk_at "vc"
    refine qbW (.inl ⟨by omega,by omega⟩) ?_
    walk_at "vc"
    refine vI (by decide) ?_
    have ec:((first:Int) + (step:Int) * (i:Int)) % 26=(((first + step * i) % 26:Nat):Int):=by omega
    rw [ec]
    refine .inl (qgs (by decide +kernel) (qeJ (by omega) (by omega)) ?_)
    rw [Int.toNat_natCast]
    have hcJ:97 + (first + step * i) % 26=cJ first step i:=rfl
    rw [hcJ]
    have sgc:=cJ_sg first step i
    generalize hcc:cJ first step i=cji at sgc
    have fin:∀ (s:Str),NmJ way first step i s→∃ (ss':List Str) (x8 x9:Option V),[some (V.ref p),some (.int (m:Int)),some (.str L26),some (.int (first:Int)),some (.int (step:Int)),some (.int (way:Int)),some (.str stem),some (.ref l),some (.int (i:Int)),some (V.str ⟨#[cji]⟩)]=[some (.ref p),some (.int (m:Int)),some (.str L26),some (.int (first:Int)),some (.int (step:Int)),some (.int (way:Int)),some (.str stem),some (.ref l),x8,x9]∧upd (upd H1 l (.lst (ss.map V.str))) l (.lst (ss.map V.str++[.str s]))=upd H1 l (.lst (ss'.map V.str))∧ss'.length=i + 1∧∀ (j:Nat) s,ss'[j]?=some s→NmJ way first step j s:=fun s hs=>by
     refine ⟨ss++[s],_,_,rfl,?_,by rw [List.length_append,hsl0];rfl,fun j s' hj=>?_⟩
     ·rw [List.map_append]
      funext c
      by_cases hc:c=l
      ·subst hc;rw [qb,qb];rfl
      ·rw [qi hc,qi hc,qi hc]
     ·by_cases hji:j < ss.length
      ·rw [List.getElem?_append_left hji] at hj
       exact hss j s' hj
      ·rw [List.getElem?_append_right (by omega)] at hj
       have e0:j - ss.length=0:=by
        have:=(List.getElem?_eq_some_iff.mp hj).1
        simp only [List.length_cons,List.length_nil] at this
        omega
       rw [e0] at hj
       cases hj
       have:j=i:=by omega
       rw [this]
       exact hs
    have hapl:(ss.map V.str).length < sizeLine:=by rw [List.length_map];exact qh (by omega)
    walk_at "vc"
    refine .inl (.inl (.inl ⟨rfl,rfl,?_⟩))
    rw [jI]
    walk_at "vc"
    refine jk (fun h=>?_) (fun h=>?_)
    ·have hw:(way:Int)=0:=of_decide_eq_true h
     walk_at "vc"
     refine ⟨.inl ⟨rfl,_,.of hl2⟩,?_⟩
     walk_at "vc"
     refine ⟨l,_,_,rfl,rfl,hl2,hapl,?_⟩
     refine fin _ ⟨qaQ rfl (by simp) (by simp) (by simp [sgc]),?_⟩
     rw [if_neg (by omega),hcc]
     rfl
    ·have hw0:(way:Int)≠0:=fun e=>h (decide_eq_true e)
     walk_at "vc"
     refine .inl (.inl (.inl ⟨rfl,rfl,?_⟩))
     rw [jI]
     walk_at "vc"
     refine jk (fun h=>?_) (fun h=>?_)
     ·have hw:(way:Int)=1:=of_decide_eq_true h
      walk_at "vc"
      refine ⟨.inl ⟨rfl,_,.of hl2⟩,?_⟩
      walk_at "vc"
      refine qf6 (Nat.le_trans (Nat.le_of_eq lstem) (by decide)) ?_
      have h2:=hsl 2
      have t2:=qaz stem 2
      rw [show ((2:Nat):Int)=2 from rfl] at h2 t2
      walk_at "vc"
      refine qeX (by rw [h2];show _ + 1≤sizeLine;exact Nat.le_of_lt (qh (by omega))) ?_
      walk_at "vc"
      refine ⟨l,_,_,rfl,rfl,hl2,hapl,?_⟩
      have el:(Txt.slice stem none (some 2)++(⟨#[cji]⟩:Str)).cps.toList=stem.cps.toList.take 2++[cji]:=by rw [qan,t2]
      refine fin _ ⟨qaQ el (by simp) (by simp [lS]) (by rw [List.all_append,tkS];simp [sgc]),?_⟩
      rw [if_neg (by omega),hcc,el,List.getLast?_append]
      rfl
     ·have hw1:(way:Int)≠1:=fun e=>h (decide_eq_true e)
      walk_at "vc"
      refine .inl (.inl (.inl ⟨rfl,rfl,?_⟩))
      rw [jI]
      walk_at "vc"
      have e6:(i:Int) % 6=((i % 6:Nat):Int):=by omega
      have h6:=hsl (i % 6)
      have t6:=qaz stem (i % 6)
      refine jk (fun h=>?_) (fun h=>?_)
      ·have hw:(way:Int)=2:=of_decide_eq_true h
       walk_at "vc"
       refine ⟨.inl ⟨rfl,_,.of hl2⟩,?_⟩
       walk_at "vc"
       refine vI (by decide) ?_
       walk_at "vc"
       refine qf6 (Nat.le_trans (Nat.le_of_eq lstem) (by decide)) ?_
       rw [e6]
       refine qeX (by rw [h6];show 1 + _≤sizeLine;exact Nat.le_of_lt (qh (by omega))) ?_
       walk_at "vc"
       refine ⟨l,_,_,rfl,rfl,hl2,hapl,?_⟩
       have el:((⟨#[cji]⟩:Str)++Txt.slice stem none (some ((i % 6:Nat):Int))).cps.toList=cji::stem.cps.toList.take (i % 6):=by rw [qan,t6];rfl
       refine fin _ ⟨qaQ el (by simp) (by simp [lS];omega) (by rw [List.all_cons,tkS,sgc];rfl),?_⟩
       rw [if_pos (by omega),hcc,el]
       rfl
      ·have hw2:(way:Int)≠2:=fun e=>h (decide_eq_true e)
       walk_at "vc"
       refine ⟨.inl ⟨rfl,_,.of hl2⟩,?_⟩
       walk_at "vc"
       refine vI (by decide) ?_
       walk_at "vc"
       refine qf6 (Nat.le_trans (Nat.le_of_eq lstem) (by decide)) ?_
       rw [e6]
       walk_at "vc"
       refine qeX (by rw [h6];show _ + 1≤sizeLine;exact Nat.le_of_lt (qh (by omega))) ?_
       walk_at "vc"
       refine ⟨l,_,_,rfl,rfl,hl2,hapl,?_⟩
       have el:(Txt.slice stem none (some ((i % 6:Nat):Int))++(⟨#[cji]⟩:Str)).cps.toList=stem.cps.toList.take (i % 6)++[cji]:=by rw [qan,t6]
       refine fin _ ⟨qaQ el (by simp) (by simp [lS];omega) (by rw [List.all_append,tkS];simp [sgc]),?_⟩
       rw [if_neg (by omega),hcc,el,List.getLast?_append]
       rfl
   ·obtain ⟨ss,x8,x9,rfl,rfl,hsl0,hss⟩:=hp
    walk_at "vc"
    refine hD _ _ (q l ss _ (b1.new7 hl) (hB1.new hl) (b1.free7 hlp hl) hlp qb ⟨by omega,nodup_key fun j k s hj hk=>?_,fun s hs=>?_⟩ hsl0)
    ·have hj':j < ss.length:=(List.getElem?_eq_some_iff.mp hj).1
     have hk':k < ss.length:=(List.getElem?_eq_some_iff.mp hk).1
     exact NmJ.inj hst (by omega) (by omega) (hss j s hj) (hss k s hk)
    ·obtain ⟨j,hj⟩:=List.getElem?_of_mem hs
     exact (hss j s hj).1
  walk_at "vc"
  refine ⟨p,26,rfl,hB,by decide,by decide,fun first H1 hf b1 hB1=>?_⟩
  walk_at "vc"
  refine ⟨by show 6≤sizeLine;decide,fun m2 hm2=>?_⟩
  have hmp:=hB1.apart hm2
  have b2:=b1.new7 (o:=.lst (stepsJ.map iV)) hm2
  have em:upd H1 m2 (.lst (stepsJ.map iV)) m2=some (.lst (stepsJ.map iV)):=qb
  have hB2:Pu (upd H1 m2 (.lst (stepsJ.map iV))) p:=hB1.new hm2
  have eu:upd H1 m2 (.lst [V.int 1,V.int 3,V.int 5,V.int 7,V.int 9,V.int 11])=upd H1 m2 (.lst (stepsJ.map iV)):=rfl
  rw [eu]
  generalize upd H1 m2 (.lst (stepsJ.map iV))=H2 at b2 em hB2
  walk_at "vc"
  refine ⟨p,6,rfl,hB2,by decide,by decide,fun d H3 hd b3 hB3=>?_⟩
  obtain ⟨st,hst⟩:∃ st,stepsJ[d]?=some st:=⟨_,List.getElem?_eq_getElem hd⟩
  refine .inl (zZ (b3 _ _ hmp em) (v:=iV st) (qH (by rw [List.getElem?_map,hst];rfl)) ?_)
  walk_at "vc"
  refine ⟨p,4,rfl,hB3,by decide,by decide,fun way H4 hw b4 hB4=>?_⟩
  have b04:=(b2.trans7 b3).trans7 b4
  walk_at "vc"
  refine ⟨rfl,?_⟩
  walk_at "vc"
  refine ⟨5,rfl,by decide,by decide,jV (lo:=0) (n:=5) (fun i ys J=>But p H J∧Pu J p∧∃ xs:List Str,ys=xs.map V.str∧xs.length=i∧∀ x∈xs,x.length=1∧x.cps.toList.all sg=true) ⟨b04,hB4,[],rfl,rfl,fun _ h=>by cases h⟩ (fun i ys J hi hs=>?_) fun ys J hs=>?_⟩
  ·obtain ⟨bJ,hBJ,xs,rfl,hxl,hx1⟩:=hs
   walk_at "vc"
   refine qcg ?_
   walk_at "vc"
   refine ⟨p,26,rfl,hBJ,by decide,by decide,fun r J2 hr2 b5 hB5=>?_⟩
   refine .inl (qgs (by decide +kernel) (qeJ (by omega) (by omega)) ?_)
   refine ⟨by rw [List.length_map];exact qh (by omega),bJ.trans7 b5,hB5,xs++[_],by rw [List.map_append];rfl,by rw [List.length_append,hxl];rfl,fun x hx=>?_⟩
   rcases List.mem_append.mp hx with z | z
   ·exact hx1 x z
   ·rw [List.mem_singleton.mp z]
    refine ⟨rfl,?_⟩
    have:=qfA (c:=97 + r) (by omega) (by omega)
    simp [this]
  ·obtain ⟨bJ,hBJ,zs,rfl,hn,h1⟩:=hs
   refine ⟨by rw [List.length_map,hn];decide,fun l5 h5=>?_⟩
   walk_at "vc"
   refine ⟨_,l5,zs,rfl,rfl,SqL.of qb,by rw [sum_ones fun x hx=>(h1 x hx).1,show ("":Str).length=0 by decide +kernel];omega,?_⟩
   have lstem:(Txt.join "" zs).length=5:=by rw [join_len fun x hx=>(h1 x hx).1];omega
   have astem:(Txt.join "" zs).cps.toList.all sg=true:=by
    have e:Txt.join "" zs=Str.join "" zs:=beq_iff_eq.mp (join_plain_closes "" zs)
    rw [e]
    exact qda fun x hx=>(h1 x hx).2
   generalize Txt.join "" zs=stem at lstem astem ⊢
   walk_at "vc"
   rw [hTC5]
   exact ⟨fun _ _ z=>z,_,_,_,way,first,st,stem,rfl,bJ.new7 h5,hBJ.new h5,List.mem_of_getElem? hst,lstem,astem⟩
end
abbrev zQ:Stmt:=top 34
theorem sc_l_ties:FnScope ["_law_purse_here", "_law_many_here", "_law_way", "_law_thin", "_law_found", "_law_d", "_law_k", "_law_pair"] ["_law_purse_here", "_law_many_here"] (qe zQ):=⟨rfl,rfl,rfl,by decide +kernel,rfl,by decide +kernel,by decide +kernel⟩
abbrev iT (q:Nat×Nat):HO:=.tup [.int (q.1:Int),.int (q.2:Int)]
def IPL (H:Hp) (l:Addr) (ts:List Addr) (TI:List (Nat×Nat)):Prop:=H l=some (.lst (ts.map V.ref))∧All2 (fun t q=>H t=some (iT q)) ts TI
theorem IPL.same {H H':Hp} {l:Addr} {ts:List Addr} {TI:List (Nat×Nat)} (h:IPL H l ts TI) (s:L2.Same H H'):IPL H' l ts TI:=⟨s _ _ h.1,h.2.mono fun _ _ z=>s _ _ z⟩
theorem vRng2 {ta:TA} {σ:L2.St} {H:Hp} {R:It→Hp→Prop} (h:ta σ H fun vs H1=>∃ i j:Int,vs=[.int i,.int j]∧(-(2 ^ 62)≤i∧i < 2 ^ 62∧-(2 ^ 62)≤j∧j < 2 ^ 62)∧R (Itr i (j - i).toNat) H1):qfi ta σ H R:=h
theorem qaI {K:W.Frag} {H:Hp} {i j:Int} {Q:VK} (q:Q (.bl (decide (i=j))) H):qgv K (.int i) (.int j) H Q:=.inl (.inl (.inl ⟨rfl,rfl,by rw [jI];exact q⟩))
theorem qd8 {q q':Nat×Nat} (h:some (iT q')=some (iT q)):q'=q:=by
 injection h with h
 injection h with h
 injection h with h1 h2
 injection h1 with h1
 injection h2 with h2 _
 injection h2 with h2
 exact Prod.ext (by omega) (by omega)
theorem ipair_eqD {K:W.Frag} {H:Hp} {a b:Addr} {q q':Nat×Nat} (hb:H b=some (iT q')) (ha:H a=some (iT q)):EqD K H 1 (.ref b) (.ref a) (decide (q'=q)):=by
 by_cases e:b=a
 ·subst e
  rw [hb] at ha
  have:q'=q:=qd8 ha
  rw [decide_eq_true this]
  exact .self
 ·have z:=EqT.tup (K:=K) (H:=H) (n:=0) (e:=fun j=>if j=0 then eqV (iV q'.1) (iV q.1) else eqV (iV q'.2) (iV q.2)) (SqT.of hb) (SqT.of ha) fun j x y hx hy=>by
   match j,hx,hy with
   | 0,hx,hy=>cases hx;cases hy;exact .flat rfl rfl
   | 1,hx,hy=>cases hx;cases hy;exact .flat rfl rfl
   | n + 2,hx,hy=>simp at hx
  have ee:((List.range (min [iV q'.1,iV q'.2].length [iV q.1,iV q.2].length)).all (fun j=>if j=0 then eqV (iV q'.1) (iV q.1) else eqV (iV q'.2) (iV q.2))&&[iV q'.1,iV q'.2].length==[iV q.1,iV q.2].length)=decide (q'=q):=by
   have e1:eqV (iV q'.1) (iV q.1)=decide (q'.1=q.1):=by
    have:=jI (q'.1:Int) (q.1:Int)
    rw [if_neg (by decide)] at this
    rw [this]
    exact decide_eq_decide.mpr (by omega)
   have e2:eqV (iV q'.2) (iV q.2)=decide (q'.2=q.2):=by
    have:=jI (q'.2:Int) (q.2:Int)
    rw [if_neg (by decide)] at this
    rw [this]
    exact decide_eq_decide.mpr (by omega)
   show ((if (0:Nat)=0 then eqV (iV q'.1) (iV q.1) else eqV (iV q'.2) (iV q.2))&&((if (1:Nat)=0 then eqV (iV q'.1) (iV q.1) else eqV (iV q'.2) (iV q.2))&&true)&&true)=_
   rw [if_pos rfl,if_neg (by decide),e1,e2,Bool.and_true,Bool.and_true]
   rw [Bool.eq_iff_iff,Bool.and_eq_true,decide_eq_true_iff,decide_eq_true_iff,decide_eq_true_iff]
   exact ⟨fun h=>Prod.ext h.1 h.2,fun h=>by rw [h];exact ⟨rfl,rfl⟩⟩
  rw [ee] at z
  exact .deep z e
theorem ipl_nin {K:W.Frag} {H:Hp} {l a:Addr} {ts:List Addr} {TI:List (Nat×Nat)} {q0:Nat×Nat} {Q:VK} (h:IPL H l ts TI) (ha:H a=some (iT q0)) (q:Q (.bl (!decide (q0∈TI))) H):qfT K true (.ref a) (.ref l) H Q:=by
 classical
 refine .inr (.inr ⟨l,ts.map V.ref,fun z=>decide (∃ t,z=.ref t∧H t=some (iT q0)),1,rfl,SqL.of h.1,by decide,fun z hz=>?_,?_⟩)
 ·obtain ⟨b,hb,rfl⟩:=List.mem_map.mp hz
  obtain ⟨q',_,r⟩:=h.2.mem hb
  have e:=ipair_eqD (K:=K) r ha
  have ee:decide (∃ t,V.ref b=.ref t∧H t=some (iT q0))=decide (q'=q0):=by
   apply decide_eq_decide.mpr
   constructor
   ·rintro ⟨t,e1,e2⟩
    cases e1
    rw [r] at e2
    exact qd8 e2
   ·rintro rfl
    exact ⟨b,rfl,r⟩
  show EqD K H 1 (.ref b) (.ref a) (decide (∃ t,V.ref b=.ref t∧H t=some (iT q0)))
  rw [ee]
  exact e
 ·have e:((ts.map V.ref).any fun z=>decide (∃ t,z=.ref t∧H t=some (iT q0)))=decide (q0∈TI):=by
   rw [Bool.eq_iff_iff,List.any_eq_true,decide_eq_true_iff]
   constructor
   ·rintro ⟨z,hz,e⟩
    obtain ⟨t,ht,rfl⟩:=List.mem_map.mp hz
    obtain ⟨q',hq',r⟩:=h.2.mem ht
    obtain ⟨t',e1,e2⟩:=of_decide_eq_true e
    cases e1
    rw [r] at e2
    have:q'=q0:=qd8 e2
    rw [← this]
    exact hq'
   ·intro hm
    obtain ⟨k,hk,e⟩:=List.getElem_of_mem hm
    have hk':k < ts.length:=by rw [h.2.len];exact hk
    have r:=h.2.at_ k ts[k] TI[k] (List.getElem?_eq_getElem hk') (List.getElem?_eq_getElem hk)
    exact ⟨.ref ts[k],List.mem_map.mpr ⟨_,List.getElem_mem hk',rfl⟩,decide_eq_true ⟨ts[k],rfl,by rw [r,e]⟩⟩
  rw [if_pos rfl,e]
  exact q
def TJ (m:Nat) (TI:List (Nat×Nat)):Prop:=TI.length≤30∧(∀ q∈TI,q.1 < q.2∧q.2 < m)∧TI.Nodup
def qfD:Sp:=fun vs H Q _=>∃ (p:Addr) (m:Nat),vs=[.ref p,.int (m:Int)]∧Pu H p∧m≤14∧∀ (l:Addr) (ts:List Addr) (TI:List (Nat×Nat)) (H':Hp),But p H H'→Pu H' p→H l=none→l≠p→IPL H' l ts TI→TJ m TI→Q (.ref l) H'
theorem IPL.butJ {H H':Hp} {p l:Addr} {ts:List Addr} {TI:List (Nat×Nat)} (h:IPL H l ts TI) (b:But p H H') (hp:Pu H p) (hl:l≠p):IPL H' l ts TI:=
 ⟨b _ _ hl h.1,h.2.mono fun t q z=>b _ _ (fun e=>by obtain ⟨x,y,c,e2,_⟩:=hp;rw [e,e2] at z;cases z) z⟩
section
variable {P:Program} {w:World} {K:W.Frag} {mg:Str→Option Value} {base:Heap} {cc:Nat→Addr} {cw:Addr}
theorem ok_tsJ {f:Addr} {fd:FuncData} (F:Fun K "_law_ties" "_law_ties" zQ f fd) (T:Txt K mg cc cw) (D_l_take:DefOk P w K mg base CX0 1 "_law_take" ["_law_purse_here", "_law_many_here"] qcE):FnOk P w K mg base CX0 2 f fd ["_law_purse_here", "_law_many_here"] qfD:=by
 refine F.ok sc_l_ties (fun vs H Q E h=>?_) fun cdv A outer s H vs Q E hr h=>?_
 ·obtain ⟨p,m,rfl,_⟩:=h;rfl
 ·obtain ⟨p,m,rfl,hB,hm,q⟩:=h
  have hu:=zX hr
  obtain ⟨TC102,hTC102⟩:∃ t0:TS,t0=fun D σ J=>∃ (l t:Addr) (way thin:Nat) (vd vk:Int) (ts:List Addr) (TI:List (Nat×Nat)) (q0:Nat×Nat),σ=[some (.ref p),some (.int (m:Int)),some (.int (way:Int)),some (.int (thin:Int)),some (.ref l),some (.int vd),some (.int vk),some (.ref t)]∧But p H J∧Pu J p∧H l=none∧l≠p∧IPL J l ts TI∧TJ m TI∧J t=some (iT q0)∧q0.2 < m∧0 < thin∧thin≤4 ∧
   ∀ (J':Hp) (ts':List Addr) (TI':List (Nat×Nat)),But p H J'→Pu J' p→IPL J' l ts' TI'→TJ m TI'→D.nx [some (.ref p),some (.int (m:Int)),some (.int (way:Int)),some (.int (thin:Int)),some (.ref l),some (.int vd),some (.int vk),some (.ref t)] J':=⟨_,rfl⟩
  refine ⟨_,(qd (qo (i:=2) sc_l_ties.nd rfl (Or.inl rfl) (qu D_l_take (hmR hr) qC (qa (pv 0) (qa qg qc))))
 (qd (qo (i:=3) sc_l_ties.nd rfl (Or.inl rfl) (qD (qE (K:=K) rfl hu) (qK (qa qg (qa qg (qa qg (qa qg (qa qg (qa qg qc))))))) (qu D_l_take (hmR hr) qC (qa (pv 0) (qa qg qc))) (fun _ _=>rfl)))
 (qd (qo (i:=4) sc_l_ties.nd rfl (Or.inl rfl) (qK qc))
 (qd (jt PassesOwn.never rfl (pi_range2 rfl T.b_range (qa qg (qa (pv 1) qc))) (qr (i:=5) sc_l_ties.nd rfl (Or.inl rfl))
 (qf (jt PassesOwn.never rfl (qT rfl T.b_range (qa (qp qaU (pv 1) (pv 5)) qc)) (qr (i:=6) sc_l_ties.nd rfl (Or.inl rfl))
 (qd (qo (i:=7) sc_l_ties.nd rfl (Or.inl rfl) (qD (qE (K:=K) rfl hu) (qK (qa (zh (qa (pv 6) (qa (qp (jU (K:=K) rfl) (pv 6) (pv 5)) qc))) (qa (zh (qa (qp qaU (pv 5) qg) (qa (qp (jU (K:=K) rfl) (pv 5) (pv 6)) qc))) (qa (zh (qa (qp jR (pv 5) qg) (qa (qp (jU (K:=K) rfl) (pv 6) (pv 5)) qc))) (qa (zh (qa (pv 6) (qa (qp (jU (K:=K) rfl) (pv 6) (pv 5)) qc))) qc))))) (pv 2) (fun _ _=>rfl)))
 (qd (jf (qt (za (K:=K) rfl hu) (pv 2) qg (qB _)) (qf (qo (i:=7) sc_l_ties.nd rfl (Or.inl rfl) (zh (qa (qu D_l_take (hmR hr) qC (qa (pv 0) (qa (pv 5) qc))) (qa (pv 5) qc))))) qv)
 (qaA TC102 (qf (jf (PW.pt (qbE (qt qdz (qD (qE (K:=K) rfl hu) (pv 7) qg (fun _ _=>rfl)) (qD (qE (K:=K) rfl hu) (pv 7) qg (fun _ _=>rfl)) (qB _)) (qbE (qt (qbu (K:=K) rfl hu) (pv 7) (pv 4) (by with_unfolding_all rfl)) (qbE (qt qdz (qk (jT (K:=K) rfl) rfl T.b_len boot_len (qa (pv 4) qc)) qg (qB _)) (qck (qt (za (K:=K) rfl hu) (qu D_l_take (hmR hr) qC (qa (pv 0) (qa (pv 3) qc))) qg (qB _))))))) (qf (qR (qdt (K:=K) rfl PySem.F.plainAttrs_list PySem.F.slot_list_append PySem.F.type_list_append q8 (pv 4) (qa (pv 7) qc)))) qv)) ?cut102))))))
 (qf (qq (pv 4))))))),?_⟩
  case cut102 =>
   intro D σ J h
   rw [hTC102] at h
   obtain ⟨l,t,way,thin,vd,vk,ts,TI,q0,rfl,bJ,hBJ,hl0,hlp,hI,hTJ,ht,hq,th0,th4,nx⟩:=h
   walk_at "vc"
   refine .inl (.inr (.inl ⟨t,_,_,_,rfl,rfl,SqT.of ht,rfl,?_⟩))
   walk_at "vc"
   refine .inl (.inr (.inl ⟨t,_,_,_,rfl,rfl,SqT.of ht,rfl,?_⟩))
   walk_at "vc"
   refine jk (fun h1=>?_) (fun h1=>?_)
   ·have h1':q0.1 < q0.2:=by have:=of_decide_eq_true h1;omega
    walk_at "vc"
    refine ipl_nin hI ht ?_
    walk_at "vc"
    refine jk (fun h2=>?_) (fun h2=>?_)
    ·have h2':q0∉TI:=by simpa using h2
     walk_at "vc"
     refine qau hI.1 ?_
     rw [List.length_map,hI.2.len]
     walk_at "vc"
     refine jk (fun h3=>?_) (fun h3=>?_)
     ·have h3':TI.length < 30:=by have:=of_decide_eq_true h3;omega
      walk_at "vc"
      refine ⟨p,thin,rfl,hBJ,th0,by omega,fun d2 J2 hd2 b2 hB2=>?_⟩
      have hI2:=hI.butJ b2 hBJ hlp
      have ht2:J2 t=some (iT q0):=b2 _ _ (fun e=>by obtain ⟨x,y,c,e2,_⟩:=hBJ;rw [e,e2] at ht;cases ht) ht
      have b3:=bJ.trans7 b2
      walk_at "vc"
      refine qaI ?_
      walk_at "vc"
      refine jk (fun h4=>?_) (fun h4=>?_)
      ·walk_at "vc"
       refine ⟨.inl ⟨rfl,_,.of hI2.1⟩,?_⟩
       walk_at "vc"
       refine ⟨l,_,_,rfl,rfl,hI2.1,by rw [List.length_map,hI.2.len];exact qh (by omega),?_⟩
       have hnt:∀ {c:Addr} {o:HO},J2 c=some o→(∀ xs,o≠.lst xs)→c≠l:=fun e hne z=>by rw [z,hI2.1] at e;cases e;exact hne _ rfl
       walk_at "vc"
       refine nx _ (ts++[t]) (TI++[q0]) (fun c u n e=>by rw [qi (fun z=>by rw [z,hl0] at e;cases e)];exact b3 c u n e) (by obtain ⟨x,y,c,e2,r⟩:=hB2;exact ⟨x,y,c,by rw [qi (Ne.symm hlp)];exact e2,r⟩) ⟨by rw [qb,List.map_append];rfl,All2.snoc (hI2.2.mono fun t' q z=>?_) ?_⟩ ⟨by rw [List.length_append];show TI.length + 1≤30;omega,fun q hq=>?_,?_⟩
       ·rw [qi (hnt z fun xs e=>by cases e)];exact z
       ·rw [qi (hnt ht2 fun xs e=>by cases e)];exact ht2
       ·rcases List.mem_append.mp hq with z | z
        ·exact hTJ.2.1 q z
        ·rw [List.mem_singleton.mp z];exact ⟨h1',by assumption⟩
       ·exact List.nodup_append.mpr ⟨hTJ.2.2,List.pairwise_singleton _ _,fun a ha b hb e=>by rw [List.mem_singleton.mp hb] at e;exact h2' (e ▸ ha)⟩
      ·walk_at "vc"
       exact nx _ ts TI b3 hB2 hI2 hTJ
     ·walk_at "vc"
      exact nx _ ts TI bJ hBJ hI hTJ
    ·walk_at "vc"
     exact nx _ ts TI bJ hBJ hI hTJ
   ·walk_at "vc"
    exact nx _ ts TI bJ hBJ hI hTJ
  walk_at "vc"
  refine ⟨p,4,rfl,hB,by decide,by decide,fun way H1 hw b1 hB1=>?_⟩
  walk_at "vc"
  refine ⟨by show 6≤sizeLine;decide,fun m2 hm2=>?_⟩
  have hmp:=hB1.apart hm2
  obtain ⟨xs,hxs⟩:∃ xs:List Nat,xs=[1,1,2,2,3,4]:=⟨_,rfl⟩
  have hx1:∀ x∈xs,0 < x∧x≤4:=fun x hx=>by
   rw [hxs] at hx
   simp only [List.mem_cons,List.not_mem_nil,or_false] at hx
   omega
  have hx6:xs.length=6:=by rw [hxs];rfl
  have b2:=b1.new7 (o:=.lst (xs.map iV)) hm2
  have em:upd H1 m2 (.lst (xs.map iV)) m2=some (.lst (xs.map iV)):=qb
  have hB2:Pu (upd H1 m2 (.lst (xs.map iV))) p:=hB1.new hm2
  have eu:upd H1 m2 (.lst [V.int 1,V.int 1,V.int 2,V.int 2,V.int 3,V.int 4])=upd H1 m2 (.lst (xs.map iV)):=by rw [hxs];rfl
  rw [eu]
  generalize upd H1 m2 (.lst (xs.map iV))=H2 at b2 em hB2
  walk_at "vc"
  refine ⟨p,6,rfl,hB2,by decide,by decide,fun d H3 hd b3 hB3=>?_⟩
  obtain ⟨thin,hth⟩:∃ st,xs[d]?=some st:=⟨_,List.getElem?_eq_getElem (by omega)⟩
  have hth2:=hx1 thin (List.mem_of_getElem? hth)
  refine .inl (zZ (b3 _ _ hmp em) (v:=iV thin) (qH (by rw [List.getElem?_map,hth];rfl)) ?_)
  have b03:=b2.trans7 b3
  walk_at "vc"
  refine ⟨by show 0≤sizeLine;decide,fun l hl=>?_⟩
  have hlp:=hB3.apart hl
  have hl0:=b03.free7 hlp hl
  have b4:=b03.new7 (o:=.lst []) hl
  have hB4:Pu (upd H3 l (.lst [])) p:=hB3.new hl
  have hI4:IPL (upd H3 l (.lst [])) l [] []:=⟨qb,.nil⟩
  generalize upd H3 l (.lst [])=H4 at b4 hB4 hI4
  walk_at "vc"
  refine vRng2 ?_
  walk_at "vc"
  refine ⟨_,_,rfl,⟨by decide,by decide,by omega,by omega⟩,?_⟩
  rw [show ((m:Int) - 1).toNat=m - 1 by omega]
  refine jL (lo:=1) (n:=m - 1) (fun i σ J=>But p H J∧Pu J p∧∃ (ts:List Addr) (TI:List (Nat×Nat)) (y5 y6 y7:Option V),σ=[some (.ref p),some (.int (m:Int)),some (.int (way:Int)),some (.int (thin:Int)),some (.ref l),y5,y6,y7]∧IPL J l ts TI∧TJ m TI) ⟨b4,hB4,[],[],_,_,_,rfl,hI4,by decide,fun q hq=>(by cases hq),.nil⟩ (fun i σ J hi hp=>?_) fun σ J hp=>?_
  ·obtain ⟨bJ,hBJ,ts,TI,y5,y6,y7,rfl,hI,hTJ⟩:=hp
   walk_at "vc"
   refine ⟨_,rfl,by omega,by omega,?_⟩
   rw [show ((m:Int) - (1 + (i:Int))).toNat=m - (1 + i) by omega]
   refine jL (lo:=0) (n:=m - (1 + i)) (fun k σ J=>But p H J∧Pu J p∧∃ (ts:List Addr) (TI:List (Nat×Nat)) (y6 y7:Option V),σ=[some (.ref p),some (.int (m:Int)),some (.int (way:Int)),some (.int (thin:Int)),some (.ref l),some (.int (1 + (i:Int))),y6,y7]∧IPL J l ts TI∧TJ m TI) ⟨bJ,hBJ,ts,TI,_,_,rfl,hI,hTJ⟩ (fun k σ J hk hp=>?_) fun σ J hp=>?_
   ·obtain ⟨bJ,hBJ,ts,TI,y6,y7,rfl,hI,hTJ⟩:=hp
    rw [Int.zero_add]
    walk_at "vc"
    refine ⟨by show 2≤sizeLine;decide,fun t1 ht1=>?_⟩
    have s1:=qY (L2.Same.refl J) (o:=.tup [.int ((k:Int)),.int ((k:Int) + (1 + (i:Int)))]) ht1
    have et1:upd J t1 (.tup [.int ((k:Int)),.int ((k:Int) + (1 + (i:Int)))]) t1=some (iT (k,k + (1 + i))):=by
     rw [qb]
     show _=some (HO.tup [V.int ((k:Nat):Int),V.int ((k + (1 + i):Nat):Int)])
     rw [show ((k:Nat):Int)=(k:Int) by omega,show ((k + (1 + i):Nat):Int)=(k:Int) + (1 + (i:Int)) by omega]
    generalize upd J t1 (.tup [.int ((k:Int)),.int ((k:Int) + (1 + (i:Int)))])=J1 at s1 et1
    walk_at "vc"
    refine ⟨by show 2≤sizeLine;decide,fun t2 ht2=>?_⟩
    have s2:=qY (L2.Same.refl J1) (o:=.tup [.int (1 + (i:Int) - 1),.int (1 + (i:Int) + (k:Int))]) ht2
    have et2:upd J1 t2 (.tup [.int (1 + (i:Int) - 1),.int (1 + (i:Int) + (k:Int))]) t2=some (iT (1 + i - 1,1 + i + k)):=by
     rw [qb]
     show _=some (HO.tup [V.int ((1 + i - 1:Nat):Int),V.int ((1 + i + k:Nat):Int)])
     rw [show ((1 + i - 1:Nat):Int)=1 + (i:Int) - 1 by omega,show ((1 + i + k:Nat):Int)=1 + (i:Int) + (k:Int) by omega]
    generalize upd J1 t2 (.tup [.int (1 + (i:Int) - 1),.int (1 + (i:Int) + (k:Int))])=J2 at s2 et2
    walk_at "vc"
    refine vI (by decide) ?_
    walk_at "vc"
    refine ⟨by show 2≤sizeLine;decide,fun t3 ht3=>?_⟩
    have s3:=qY (L2.Same.refl J2) (o:=.tup [.int ((1 + (i:Int)) % 3),.int ((k:Int) + (1 + (i:Int)))]) ht3
    have et3:upd J2 t3 (.tup [.int ((1 + (i:Int)) % 3),.int ((k:Int) + (1 + (i:Int)))]) t3=some (iT ((1 + i) % 3,k + (1 + i))):=by
     rw [qb]
     show _=some (HO.tup [V.int (((1 + i) % 3:Nat):Int),V.int ((k + (1 + i):Nat):Int)])
     rw [show (((1 + i) % 3:Nat):Int)=(1 + (i:Int)) % 3 by omega,show ((k + (1 + i):Nat):Int)=(k:Int) + (1 + (i:Int)) by omega]
    generalize upd J2 t3 (.tup [.int ((1 + (i:Int)) % 3),.int ((k:Int) + (1 + (i:Int)))])=J3 at s3 et3
    walk_at "vc"
    refine ⟨by show 2≤sizeLine;decide,fun t4 ht4=>?_⟩
    have s4:=qY (L2.Same.refl J3) (o:=.tup [.int ((k:Int)),.int ((k:Int) + (1 + (i:Int)))]) ht4
    have et4:upd J3 t4 (.tup [.int ((k:Int)),.int ((k:Int) + (1 + (i:Int)))]) t4=some (iT (k,k + (1 + i))):=by
     rw [qb]
     show _=some (HO.tup [V.int ((k:Nat):Int),V.int ((k + (1 + i):Nat):Int)])
     rw [show ((k:Nat):Int)=(k:Int) by omega,show ((k + (1 + i):Nat):Int)=(k:Int) + (1 + (i:Int)) by omega]
    generalize upd J3 t4 (.tup [.int ((k:Int)),.int ((k:Int) + (1 + (i:Int)))])=J4 at s4 et4
    walk_at "vc"
    refine ⟨by show 4≤sizeLine;decide,fun g hg=>?_⟩
    have s5:=qY (L2.Same.refl J4) (o:=.lst [.ref t1,.ref t2,.ref t3,.ref t4]) hg
    have eg:upd J4 g (.lst [.ref t1,.ref t2,.ref t3,.ref t4]) g=some (.lst [.ref t1,.ref t2,.ref t3,.ref t4]):=qb
    generalize upd J4 g (.lst [.ref t1,.ref t2,.ref t3,.ref t4])=J5 at s5 eg
    have s05:=(((s1.trans s2).trans s3).trans s4).trans s5
    obtain ⟨t,q0,hgt,ht,hq0⟩:∃ (t:Addr) (q0:Nat×Nat),[V.ref t1,V.ref t2,V.ref t3,V.ref t4][way]?=some (.ref t)∧J5 t=some (iT q0)∧q0.2 < m:=by
     have e1:=s5 _ _ (s4 _ _ (s3 _ _ (s2 _ _ et1)))
     have e2:=s5 _ _ (s4 _ _ (s3 _ _ et2))
     have e3:=s5 _ _ (s4 _ _ et3)
     have e4:=s5 _ _ et4
     match way,hw with
     | 0,_=>exact ⟨t1,_,rfl,e1,by show k + (1 + i) < m;omega⟩
     | 1,_=>exact ⟨t2,_,rfl,e2,by show 1 + i + k < m;omega⟩
     | 2,_=>exact ⟨t3,_,rfl,e3,by show k + (1 + i) < m;omega⟩
     | 3,_=>exact ⟨t4,_,rfl,e4,by show k + (1 + i) < m;omega⟩
    walk_at "vc"
    refine .inl (zZ eg (qH hgt) ?_)
    have bJ5:=fun (c:Addr) (o:HO) (n:c≠p) (e:H c=some o)=>s05 _ _ (bJ c o n e)
    have hBJ5:Pu J5 p:=by obtain ⟨x,y,c,e2,r⟩:=hBJ;exact ⟨x,y,c,s05 _ _ e2,r⟩
    have hI5:=hI.same s05
    walk_at "vc"
    refine qaI ?_
    walk_at "vc"
    refine jk (fun h3=>?_) (fun h3=>?_)
    ·walk_at "vc"
     refine ⟨p,1 + i,?_,hBJ5,by omega,by omega,fun d2 J6 hd2 b6 hB6=>?_⟩
     ·show [V.ref p,V.int (1 + (i:Int))]=_
      rw [show ((1 + i:Nat):Int)=1 + (i:Int) by omega]
     have hI6:=hI5.butJ b6 hBJ5 hlp
     walk_at "vc"
     refine ⟨by show 2≤sizeLine;decide,fun t6 ht6=>?_⟩
     have s67:=qY (L2.Same.refl J6) (o:=.tup [.int (d2:Int),.int (1 + (i:Int))]) ht6
     have et6:upd J6 t6 (.tup [.int (d2:Int),.int (1 + (i:Int))]) t6=some (iT (d2,1 + i)):=by
      rw [qb]
      show _=some (HO.tup [V.int (d2:Int),V.int ((1 + i:Nat):Int)])
      rw [show ((1 + i:Nat):Int)=1 + (i:Int) by omega]
     have b67:But p H (upd J6 t6 (.tup [.int (d2:Int),.int (1 + (i:Int))])):=(But.trans7 bJ5 b6).new7 ht6
     have hB7:Pu (upd J6 t6 (.tup [.int (d2:Int),.int (1 + (i:Int))])) p:=hB6.new ht6
     generalize upd J6 t6 (.tup [.int (d2:Int),.int (1 + (i:Int))])=J7 at s67 et6 b67 hB7
     walk_at "vc"
     rw [hTC102]
     exact ⟨l,t6,way,thin,_,_,ts,TI,(d2,1 + i),rfl,b67,hB7,hl0,hlp,hI6.same s67,hTJ,et6,by show 1 + i < m;omega,hth2.1,hth2.2,fun J' ts' TI' h1 h2 h3 h4=>⟨h1,h2,ts',TI',_,_,rfl,h3,h4⟩⟩
    ·walk_at "vc"
     rw [hTC102]
     exact ⟨l,t,way,thin,_,_,ts,TI,q0,rfl,bJ5,hBJ5,hl0,hlp,hI5,hTJ,ht,hq0,hth2.1,hth2.2,fun J' ts' TI' h1 h2 h3 h4=>⟨h1,h2,ts',TI',_,_,rfl,h3,h4⟩⟩
   ·obtain ⟨bJ,hBJ,ts,TI,y6,y7,rfl,hI,hTJ⟩:=hp
    walk_at "vc"
    exact ⟨bJ,hBJ,ts,TI,_,_,_,rfl,hI,hTJ⟩
  ·obtain ⟨bJ,hBJ,ts,TI,y5,y6,y7,rfl,hI,hTJ⟩:=hp
   walk_at "vc"
   exact q l ts TI J bJ hBJ hl0 hlp hI hTJ
end
abbrev zR:Stmt:=top 36
theorem sc_l_made:FnScope ["_law_names_here", "_law_ties_here", "_law_handed", "_law_one", "_law_other"] ["_law_names_here", "_law_ties_here"] (qe zR):=⟨rfl,rfl,rfl,by decide +kernel,rfl,by decide +kernel,by decide +kernel⟩
def tn (ss:List Str) (i:Nat):Str:=ss.getD i ""
def nmP (ss:List Str) (p:Nat×Nat):Str×Str:=(tn ss p.1,tn ss p.2)
theorem qaJ {ss:List Str} {i:Nat} (h:i < ss.length):ss[i]?=some (tn ss i):=by unfold tn;rw [List.getD_eq_getElem?_getD,List.getElem?_eq_getElem h];rfl
theorem qbo {ss:List Str} {i:Nat} (h:i < ss.length):tn ss i∈ss:=List.mem_of_getElem? (qaJ h)
theorem qbc {ss:List Str} (hn:ss.Nodup) {i j:Nat} (hi:i < ss.length) (hj:j < ss.length) (e:tn ss i=tn ss j):i=j:=qA hn (qaJ hi) (by rw [e];exact qaJ hj)
theorem qcF {K:W.Frag} {H:Hp} {n:Addr} {ss:List Str} {i:Nat} {Q:VK} (h:H n=some (.lst (ss.map V.str))) (hi:i < ss.length) (q:Q (.str (tn ss i)) H):qgt K (.ref n) (.int (i:Int)) H Q:=
 .inl (zZ h (v:=.str (tn ss i)) (qH (by rw [List.getElem?_map,qaJ hi];rfl)) q)
theorem TJ.tok {ss:List Str} (hn:ss.Nodup) {TI:List (Nat×Nat)} (h:TJ ss.length TI):TOk ss (TI.map (nmP ss)):=by
 refine ⟨by rw [List.length_map];exact h.1,fun ab hab=>?_,?_⟩
 ·obtain ⟨p,hp,rfl⟩:=List.mem_map.mp hab
  have:=h.2.1 p hp
  exact ⟨p.1,p.2,this.1,qaJ (by omega),qaJ this.2⟩
 ·refine List.pairwise_map.mpr (h.2.2.imp_of_mem fun {a b} ha hb hne e=>hne ?_)
  have h1:=h.2.1 a ha
  have h2:=h.2.1 b hb
  exact Prod.ext (qbc hn (by omega) (by omega) (congrArg Prod.fst e)) (qbc hn h1.2 h2.2 (congrArg Prod.snd e))
theorem qde:∀ {l m:List (Str×Str)},l.Nodup→(∀ x∈l,x∈m)→l.length≤m.length
 | [],_,_,_=>Nat.zero_le _
 | x::r,m,hn,h=>by
  obtain ⟨h1,h2⟩:=List.nodup_cons.mp hn
  have hx:=h x List.mem_cons_self
  have ih:=qde (l:=r) (m:=m.erase x) h2 fun y hy=>(List.mem_erase_of_ne (fun e=>h1 (by rw [← e];exact hy))).mpr (h y (List.mem_cons_of_mem _ hy))
  rw [List.length_erase_of_mem hx] at ih
  have:0 < m.length:=List.length_pos_of_mem hx
  simp only [List.length_cons]
  omega
theorem ris_nd {ss:List Str} (tps:List (Str×Str)) (hn:ss.Nodup):(qap ss tps ss).Nodup:=by
 unfold qap
 show List.Pairwise _ _
 rw [List.pairwise_flatMap]
 refine ⟨fun a _=>?_,List.Pairwise.imp (fun {a b} hab x hx y hy e=>?_) hn⟩
 ·exact List.Pairwise.map _ (fun x y hxy e=>hxy (Prod.mk.inj e).2) (hn.filter _)
 ·unfold qao at hx hy
  obtain ⟨o,_,rfl⟩:=List.mem_map.mp hx
  obtain ⟨o',_,rfl⟩:=List.mem_map.mp hy
  exact hab (Prod.mk.inj e).1
theorem TOk.ris {ss:List Str} {tps:List (Str×Str)} (hn:ss.Nodup) (hT:TOk ss tps):TOk ss (qap ss tps ss):=by
 have hnd:=ris_nd tps hn
 have hsub:∀ ab∈qap ss tps ss,ab∈tps:=fun ab h=>(qcD hT ab.1 ab.2).mp h
 exact ⟨Nat.le_trans (qde hnd hsub) hT.few,fun ab h=>hT.ok ab (hsub ab h),hnd⟩
theorem WG.ofR {ss:List Str} {ns:List Nat} {tps ups:List (Str×Str)} (hw:WOk ss ns) (hT:TOk ss tps) (sh:Shuf tps ups) (hb:jN ss ns ups):WG ss ns (qap ss tps ss):=
 ⟨hT.ris hw.nd,Adj.ris hT (qd6 sh hb),ties_ris hw hT (qd6 sh hb)⟩
theorem WebN.ok {H0:Hp} {cw x:Addr} {H:Hp} {ss:List Str} {ns:List Nat} (h:WebN H0 cw H x ss ns):WOk ss ns:=by
 obtain ⟨_,_,_,_,_,_,_,_,z,_⟩:=h;exact z
def hdP (ss:List Str) (q:Nat×Nat):Str×Str:=if (q.1 + q.2) % 2=0 then nmP ss q else ((nmP ss q).2,(nmP ss q).1)
theorem hd_shuf (ss:List Str) (TI:List (Nat×Nat)):Shuf (TI.map (nmP ss)) (TI.map (hdP ss)):=by
 refine ⟨_,List.Perm.refl _,by rw [List.length_map,List.length_map],fun k a b h1 h2=>?_⟩
 rw [List.getElem?_map] at h1 h2
 obtain ⟨q,hq,rfl⟩:=Option.map_eq_some_iff.mp h1
 rw [hq] at h2
 cases h2
 unfold hdP
 split
 ·exact .inl rfl
 ·exact .inr rfl
def qfE (cc:Nat→Addr) (cw:Addr):Sp:=fun vs H Q _=>∃ (n l:Addr) (ss:List Str) (ts:List Addr) (TI:List (Nat×Nat)),vs=[.ref n,.ref l]∧H n=some (.lst (ss.map V.str))∧NOk ss∧IPL H l ts TI∧TJ ss.length TI∧∀ (b:Addr) (ns:List Nat) (H':Hp),L2.Same H H'→H b=none→WebN H cw H' b ss ns→Adj ss ns (TI.map (nmP ss))→WG ss ns (qap ss (TI.map (nmP ss)) ss)→Q (.ref b) H'
def qbd (ns:List Nat) (a b:Nat):Bool:=(ns.getD a 0).testBit b
def BtJ (n:Nat) (TI:List (Nat×Nat)) (bs:List Nat):Prop:=bs.length=n∧(∀ a,bs.getD a 0 < 2 ^ n)∧∀ a b,qbd bs a b=true↔((a,b)∈TI∨(b,a)∈TI)
def qfF:Sp:=fun vs H Q _=>∃ (l:Addr) (n:Nat) (ts:List Addr) (TI:List (Nat×Nat)),vs=[.int (n:Int),.ref l]∧n≤14∧IPL H l ts TI∧TJ n TI∧∀ (b:Addr) (bs:List Nat) (H':Hp),L2.Same H H'→H b=none→H' b=some (.lst (qam bs))→BtJ n TI bs→Q (.ref b) H'
section
variable {P:Program} {w:World} {K:W.Frag} {mg:Str→Option Value} {base:Heap} {cc:Nat→Addr} {cw:Addr}
theorem ok_mdJ {f:Addr} {fd:FuncData} (F:Fun K "_law_made" "_law_made" zR f fd) (T:Txt K mg cc cw) (QD_Web:MakeOk P w K mg base CX0 5 cw "Web" ["self", "names", "ties"] (fun vs H Q _=>qdr cc cw vs H Q E0)):FnOk P w K mg base CX0 7 f fd ["_law_names_here", "_law_ties_here"] (qfE cc cw):=by
 refine F.ok sc_l_made (fun vs H Q E h=>?_) fun cdv A outer s H vs Q E hr h=>?_
 ·obtain ⟨n,l,ss,ts,TI,rfl,_⟩:=h;rfl
 ·obtain ⟨n,l,ss,ts,TI,rfl,hn,hO,hI,hT,q⟩:=h
  have hu:=zX hr
  refine ⟨_,(qd (qo (i:=2) sc_l_made.nd rfl (Or.inl rfl) (qK qc))
 (qd (jt PassesOwn.never rfl (qeF (K:=K) rfl (pv 1)) (qdx rfl (zJ (qr (i:=3) sc_l_made.nd rfl (Or.inl rfl)) (zJ (qr (i:=4) sc_l_made.nd rfl (Or.inl rfl)) qcn)))
 (qf (qR (qdt (K:=K) rfl PySem.F.plainAttrs_list PySem.F.slot_list_append PySem.F.type_list_append q8 (pv 2) (qa (qD (qE (K:=K) rfl hu) (qK (qa (zh (qa (qD (qE (K:=K) rfl hu) (pv 0) (pv 3) (fun _ _=>rfl)) (qa (qD (qE (K:=K) rfl hu) (pv 0) (pv 4) (fun _ _=>rfl)) qc))) (qa (zh (qa (qD (qE (K:=K) rfl hu) (pv 0) (pv 4) (fun _ _=>rfl)) (qa (qD (qE (K:=K) rfl hu) (pv 0) (pv 3) (fun _ _=>rfl)) qc))) qc))) (qp jR (qp (jU (K:=K) rfl) (pv 3) (pv 4)) qg) (fun _ _=>rfl)) qc)))))
 (qf (qq (pe_makeQ QD_Web (hmR hr) (qa (zC (qcv (K:=K) rfl rfl) rfl T.b_list boot_list (qa (pv 0) qc)) (qa (pv 2) qc))))))),?_⟩
  walk_at "vc"
  refine ⟨by show 0≤sizeLine;decide,fun h hh0=>?_⟩
  have s1:=qY (L2.Same.refl H) (o:=.lst []) hh0
  have eh:upd H h (.lst []) h=some (.lst []):=qb
  generalize upd H h (.lst [])=H1 at s1 eh
  walk_at "vc"
  refine qfx ?_
  walk_at "vc"
  have hh:H h=none:=hh0
  refine ⟨l,_,rfl,.of (s1 _ _ hI.1),jS (xs:=ts.map V.ref) (fun i σ J=>L2.Same H J∧∃ (us:List Addr) (y3 y4:Option V),σ=[some (.ref n),some (.ref l),some (.ref h),y3,y4]∧J h=some (.lst (us.map V.ref))∧All2 (fun t ab=>J t=some (.tup [.str ab.1,.str ab.2])) us ((TI.take i).map (hdP ss))) ⟨s1,[],_,_,rfl,eh,.nil⟩ (fun i σ J _ hp=>.of (hp.1 _ _ hI.1)) (fun i x σ J hx hp=>?_) fun σ J hp=>?_⟩
  ·obtain ⟨sJ,us,y3,y4,rfl,eJ,hA⟩:=hp
   rw [List.getElem?_map] at hx
   obtain ⟨u,hu2,rfl⟩:=Option.map_eq_some_iff.mp hx
   have hi:i < TI.length:=by rw [← hI.2.len];exact (List.getElem?_eq_some_iff.mp hu2).1
   obtain ⟨q0,hq0⟩:∃ q0,TI[i]?=some q0:=⟨_,List.getElem?_eq_getElem hi⟩
   have hup:=sJ _ _ (hI.2.at_ i u q0 hu2 hq0)
   have hq:=hT.2.1 q0 (List.mem_of_getElem? hq0)
   have hnJ:=sJ _ _ hn
   have h30:=hT.1
   refine ⟨u,_,rfl,.of hup,rfl,_,_,rfl,_,_,rfl,rfl,?_⟩
   walk_at "vc"
   refine ⟨.inl ⟨rfl,_,.of eJ⟩,?_⟩
   walk_at "vc"
   refine qcF hnJ (by omega) ?_
   walk_at "vc"
   refine qcF hnJ hq.2 ?_
   walk_at "vc"
   refine ⟨by show 2≤sizeLine;decide,fun t1 ht1=>?_⟩
   have s2:=qY (L2.Same.refl J) (o:=.tup [.str (tn ss q0.1),.str (tn ss q0.2)]) ht1
   have et1:upd J t1 (.tup [.str (tn ss q0.1),.str (tn ss q0.2)]) t1=some (.tup [.str (tn ss q0.1),.str (tn ss q0.2)]):=qb
   generalize upd J t1 (.tup [.str (tn ss q0.1),.str (tn ss q0.2)])=J2 at s2 et1
   walk_at "vc"
   refine qcF (s2 _ _ hnJ) hq.2 ?_
   walk_at "vc"
   refine qcF (s2 _ _ hnJ) (by omega) ?_
   walk_at "vc"
   refine ⟨by show 2≤sizeLine;decide,fun t2 ht2=>?_⟩
   have s3:=qY (L2.Same.refl J2) (o:=.tup [.str (tn ss q0.2),.str (tn ss q0.1)]) ht2
   have et2:upd J2 t2 (.tup [.str (tn ss q0.2),.str (tn ss q0.1)]) t2=some (.tup [.str (tn ss q0.2),.str (tn ss q0.1)]):=qb
   generalize upd J2 t2 (.tup [.str (tn ss q0.2),.str (tn ss q0.1)])=J3 at s3 et2
   walk_at "vc"
   refine ⟨by show 2≤sizeLine;decide,fun g hg=>?_⟩
   have s4:=qY (L2.Same.refl J3) (o:=.lst [.ref t1,.ref t2]) hg
   have eg:upd J3 g (.lst [.ref t1,.ref t2]) g=some (.lst [.ref t1,.ref t2]):=qb
   generalize upd J3 g (.lst [.ref t1,.ref t2])=J4 at s4 eg
   walk_at "vc"
   refine vI (by decide) ?_
   obtain ⟨t,hgt,ht⟩:∃ t,atI [V.ref t1,V.ref t2] (((q0.1:Int) + (q0.2:Int)) % 2)=some (.ref t)∧J4 t=some (.tup [.str (hdP ss q0).1,.str (hdP ss q0).2]):=by
    by_cases h0:(q0.1 + q0.2) % 2=0
    ·rw [show ((q0.1:Int) + (q0.2:Int)) % 2=((0:Nat):Int) by omega]
     refine ⟨t1,qH rfl,?_⟩
     unfold hdP
     rw [if_pos h0]
     exact s4 _ _ (s3 _ _ et1)
    ·rw [show ((q0.1:Int) + (q0.2:Int)) % 2=((1:Nat):Int) by omega]
     refine ⟨t2,qH rfl,?_⟩
     unfold hdP
     rw [if_neg h0]
     exact s4 _ _ et2
   refine .inl (zZ eg hgt ?_)
   have s24:=(s2.trans s3).trans s4
   have e4:=s24 _ _ eJ
   walk_at "vc"
   have hlen:us.length≤30:=by rw [hA.len,List.length_map,List.length_take];omega
   refine ⟨h,_,_,rfl,rfl,e4,by rw [List.length_map];exact qh (by omega),?_⟩
   have hnt:∀ {c:Addr} {o:HO},J4 c=some o→(∀ xs,o≠.lst xs)→c≠h:=fun e hne z=>by rw [z,e4] at e;cases e;exact hne _ rfl
   refine ⟨fun c o e=>?_,us++[t],_,_,rfl,by rw [qb,List.map_append];rfl,?_⟩
   ·rw [qi (fun z=>by rw [z,hh] at e;cases e)]
    exact (sJ.trans s24) c o e
   ·rw [List.take_add_one,hq0,List.map_append]
    refine All2.snoc (hA.mono fun t' ab z=>?_) ?_
    ·rw [qi (hnt (s24 _ _ z) fun xs e=>by cases e)];exact s24 _ _ z
    ·rw [qi (hnt ht fun xs e=>by cases e)];exact ht
  ·obtain ⟨sJ,us,y3,y4,rfl,eJ,hA⟩:=hp
   have e:(ts.map V.ref).length=TI.length:=by rw [List.length_map,hI.2.len]
   rw [e,List.take_length] at hA
   walk_at "vc"
   refine .inl ⟨n,_,rfl,.inl (.of (sJ _ _ hn)),fun c1 hc1=>?_⟩
   have s2:=qY (L2.Same.refl J) (o:=.lst (ss.map V.str)) hc1
   have ec:upd J c1 (.lst (ss.map V.str)) c1=some (.lst (ss.map V.str)):=qb
   generalize upd J c1 (.lst (ss.map V.str))=J2 at s2 ec
   walk_at "vc"
   refine fun x' dx' hx0 hdx0 hne=>?_
   have sh:=hd_shuf ss TI
   exact qdb ec (s2 _ _ eJ) (hA.mono fun t ab z=>s2 _ _ z) hO (hT.tok hO.nd) sh hx0 hdx0 (Ne.symm hne) fun ns H3 s3 hWN hb=>⟨rfl,q x' ns H3 ((sJ.trans s2).trans s3) ((sJ.trans s2).free hx0) (hWN.old (sJ.trans s2)) (qd6 sh hb) (WG.ofR hWN.ok (hT.tok hO.nd) sh hb)⟩
end
abbrev zS:Stmt:=top 37
theorem sc_l_bits:FnScope ["_law_many_here", "_law_ties_here", "_law_found", "_law_one", "_law_other"] ["_law_many_here", "_law_ties_here"] (qe zS):=⟨rfl,rfl,rfl,by decide +kernel,rfl,by decide +kernel,by decide +kernel⟩
theorem btJ_zero (n:Nat):BtJ n [] (List.replicate n 0):=by
 have z:∀ a,(List.replicate n 0).getD a 0=0:=fun a=>by
  rw [List.getD_eq_getElem?_getD,List.getElem?_replicate]
  split<;>rfl
 refine ⟨List.length_replicate,fun a=>by rw [z a];exact Nat.two_pow_pos n,fun a b=>?_⟩
 unfold qbd
 rw [z a]
 simp
theorem btJ_put {n:Nat} {TI:List (Nat×Nat)} {bs:List Nat} {q:Nat×Nat} (h:BtJ n TI bs) (hq:q.1 < q.2∧q.2 < n):BtJ n (TI++[q]) ((bs.set q.1 (bs.getD q.1 0 ||| 2 ^ q.2)).set q.2 (bs.getD q.2 0 ||| 2 ^ q.1)):=by
 obtain ⟨hl,hb,ht⟩:=h
 have l1:q.1 < bs.length:=by omega
 have l2:q.2 < (bs.set q.1 (bs.getD q.1 0 ||| 2 ^ q.2)).length:=by rw [List.length_set];omega
 have hne:q.1≠q.2:=by omega
 have g:∀ a,((bs.set q.1 (bs.getD q.1 0 ||| 2 ^ q.2)).set q.2 (bs.getD q.2 0 ||| 2 ^ q.1)).getD a 0=if q.2=a then bs.getD q.2 0 ||| 2 ^ q.1 else if q.1=a then bs.getD q.1 0 ||| 2 ^ q.2 else bs.getD a 0:=fun a=>by rw [zc l2,zc l1]
 refine ⟨by rw [List.length_set,List.length_set,hl],fun a=>?_,fun a b=>?_⟩
 ·rw [g a]
  split
  ·exact Nat.or_lt_two_pow (hb _) (Nat.pow_lt_pow_right (by decide) (by omega))
  ·split
   ·exact Nat.or_lt_two_pow (hb _) (Nat.pow_lt_pow_right (by decide) hq.2)
   ·exact hb a
 ·have base:=ht a b
  unfold qbd at base ⊢
  rw [g a,List.mem_append,List.mem_append,List.mem_singleton,List.mem_singleton]
  by_cases e2:q.2=a
  ·subst e2
   rw [if_pos rfl,Nat.testBit_or,Nat.testBit_two_pow,Bool.or_eq_true,base,decide_eq_true_iff]
   constructor
   ·rintro ((z | z) | z)
    ·exact .inl (.inl z)
    ·exact .inr (.inl z)
    ·exact .inr (.inr (by rw [← z]))
   ·rintro ((z | z) | (z | z))
    ·exact .inl (.inl z)
    ·exact absurd (congrArg Prod.fst z) (Ne.symm hne)
    ·exact .inl (.inr z)
    ·exact .inr (congrArg Prod.fst z).symm
  ·rw [if_neg e2]
   by_cases e1:q.1=a
   ·subst e1
    rw [if_pos rfl,Nat.testBit_or,Nat.testBit_two_pow,Bool.or_eq_true,base,decide_eq_true_iff]
    constructor
    ·rintro ((z | z) | z)
     ·exact .inl (.inl z)
     ·exact .inr (.inl z)
     ·exact .inl (.inr (by rw [← z]))
    ·rintro ((z | z) | (z | z))
     ·exact .inl (.inl z)
     ·exact .inr (congrArg Prod.snd z).symm
     ·exact .inl (.inr z)
     ·exact absurd (congrArg Prod.snd z) hne
   ·rw [if_neg e1,base]
    constructor
    ·rintro (z | z)
     ·exact .inl (.inl z)
     ·exact .inr (.inl z)
    ·rintro ((z | z) | (z | z))
     ·exact .inl z
     ·exact absurd (congrArg Prod.fst z).symm e1
     ·exact .inr z
     ·exact absurd (congrArg Prod.snd z).symm e2
section
variable {P:Program} {w:World} {K:W.Frag} {mg:Str→Option Value} {base:Heap} {cc:Nat→Addr} {cw:Addr}
theorem ok_btJ {f:Addr} {fd:FuncData} (F:Fun K "_law_bits" "_law_bits" zS f fd) (T:Txt K mg cc cw):FnOk P w K mg base CX0 1 f fd ["_law_many_here", "_law_ties_here"] qfF:=by
 refine F.ok sc_l_bits (fun vs H Q E h=>?_) fun cdv A outer s H vs Q E hr h=>?_
 ·obtain ⟨l,n,ts,TI,rfl,_⟩:=h;rfl
 ·obtain ⟨l,n,ts,TI,rfl,hn,hI,hT,q⟩:=h
  have hu:=zX hr
  refine ⟨_,(qd (qo (i:=2) sc_l_bits.nd rfl (Or.inl rfl) (qp qdJ (qK (qa qg qc)) (pv 0)))
 (qd (jt PassesOwn.never rfl (qeF (K:=K) rfl (pv 1)) (qdx rfl (zJ (qr (i:=3) sc_l_bits.nd rfl (Or.inl rfl)) (zJ (qr (i:=4) sc_l_bits.nd rfl (Or.inl rfl)) qcn)))
 (qd (qab (qp qcp (qD (qE (K:=K) rfl hu) (pv 2) (pv 3) (fun _ _=>rfl)) (qp qaV qg (pv 4))) (qaa (pv 2) (pv 3) (qaj hu)))
 (qf (qab (qp qcp (qD (qE (K:=K) rfl hu) (pv 2) (pv 4) (fun _ _=>rfl)) (qp qaV qg (pv 3))) (qaa (pv 2) (pv 4) (qaj hu))))))
 (qf (qq (pv 2))))),?_⟩
  walk_at "vc"
  refine ⟨by show 1≤sizeLine;decide,fun z hzz=>?_⟩
  have s1:=qY (L2.Same.refl H) (o:=.lst [.int 0]) hzz
  walk_at "vc"
  refine ⟨z,_,_,rfl,rfl,qb,by omega,by omega,by show 1 * _≤sizeLine;rw [Int.toNat_natCast];exact Nat.le_of_lt (qh (by omega)),fun b hb=>?_⟩
  rw [Int.toNat_natCast,qb6]
  have s2:=qY s1 (o:=.lst (qam (List.replicate n 0))) hb
  have hb0:H b=none:=s1.free hb
  have eb:upd (upd H z (.lst [.int 0])) b (.lst (qam (List.replicate n 0))) b=some (.lst (qam (List.replicate n 0))):=qb
  generalize upd (upd H z (.lst [.int 0])) b (.lst (qam (List.replicate n 0)))=H2 at s2 eb
  walk_at "vc"
  refine qfx ?_
  walk_at "vc"
  refine ⟨l,_,rfl,.of (s2 _ _ hI.1),jS (xs:=ts.map V.ref) (fun i σ J=>L2.Same H J∧∃ (bs:List Nat) (y3 y4:Option V),σ=[some (.int (n:Int)),some (.ref l),some (.ref b),y3,y4]∧J b=some (.lst (qam bs))∧BtJ n (TI.take i) bs) ⟨s2,_,_,_,rfl,eb,btJ_zero n⟩ (fun i σ J _ hp=>.of (hp.1 _ _ hI.1)) (fun i x σ J hx hp=>?_) fun σ J hp=>?_⟩
  ·obtain ⟨sJ,bs,y3,y4,rfl,eJ,hB⟩:=hp
   rw [List.getElem?_map] at hx
   obtain ⟨u,hu2,rfl⟩:=Option.map_eq_some_iff.mp hx
   have hi:i < TI.length:=by rw [← hI.2.len];exact (List.getElem?_eq_some_iff.mp hu2).1
   obtain ⟨q0,hq0⟩:∃ q0,TI[i]?=some q0:=⟨_,List.getElem?_eq_getElem hi⟩
   have hup:=sJ _ _ (hI.2.at_ i u q0 hu2 hq0)
   have hq:=hT.2.1 q0 (List.mem_of_getElem? hq0)
   have l1:q0.1 < bs.length:=by rw [hB.1];omega
   have l2:q0.2 < bs.length:=by rw [hB.1];omega
   have hne:q0.1≠q0.2:=by omega
   refine ⟨u,_,rfl,.of hup,rfl,_,_,rfl,_,_,rfl,rfl,?_⟩
   walk_at "vc"
   refine .inl (zZ eJ (qH (zd l1)) ?_)
   walk_at "vc"
   refine vI ⟨by omega,by omega,by decide⟩ ?_
   walk_at "vc"
   rw [qc6]
   refine .inl (qdo eJ (qbv (by unfold qam;rw [List.length_map];exact l1)) ?_)
   rw [qaN]
   walk_at "vc"
   have e2:(bs.set q0.1 (bs.getD q0.1 0 ||| 2 ^ q0.2)).getD q0.2 0=bs.getD q0.2 0:=by rw [zc l1,if_neg hne]
   refine .inl (zZ qb (qH (zd (by simpa using l2))) ?_)
   walk_at "vc"
   refine vI ⟨by omega,by omega,by decide⟩ ?_
   walk_at "vc"
   rw [qc6,e2]
   refine .inl (qdo qb (qbv (by unfold qam;rw [List.length_map];simpa using l2)) ?_)
   rw [qaN]
   walk_at "vc"
   refine ⟨fun c o e=>?_,_,_,_,rfl,qb,?_⟩
   ·have hc:c≠b:=fun z=>by rw [z,hb0] at e;cases e
    rw [qi hc,qi hc]
    exact sJ c o e
   ·rw [List.take_add_one,hq0]
    exact btJ_put hB hq
  ·obtain ⟨sJ,bs,y3,y4,rfl,eJ,hB⟩:=hp
   have e:(ts.map V.ref).length=TI.length:=by rw [List.length_map,hI.2.len]
   rw [e,List.take_length] at hB
   walk_at "vc"
   exact q b bs J sJ hb0 eJ hB
end
abbrev zu:Stmt:=top 40
theorem sc_l_room:FnScope ["_law_many_here", "_law_gone"] ["_law_many_here", "_law_gone"] (qe zu):=⟨rfl,rfl,rfl,by decide +kernel,rfl,by decide +kernel,by decide +kernel⟩
def jB (gs:List Nat) (n:Nat):List Nat:=((List.range n).filter fun k=>!decide (k∈gs)).map fun k=>2 ^ k
theorem qcG (gs:List Nat):∀ n,(jB gs n).sum < 2 ^ n∧∀ k,(jB gs n).sum.testBit k=true↔k < n∧k∉gs
 | 0=>⟨by show (0:Nat) < 1;decide,fun k=>by simp [jB]⟩
 | n + 1=>by
  obtain ⟨h1,h2⟩:=qcG gs n
  have hp:2 ^ (n + 1)=2 ^ n + 2 ^ n:=by rw [Nat.pow_succ];omega
  by_cases hg:n∈gs
  ·have e:jB gs (n + 1)=jB gs n:=by
    unfold jB
    rw [List.range_succ,List.filter_append,List.filter_cons,if_neg (by simp [hg])]
    simp
   rw [e]
   refine ⟨by omega,fun k=>?_⟩
   rw [h2 k]
   constructor
   ·exact fun z=>⟨by omega,z.2⟩
   ·intro z
    have:k≠n:=fun e=>z.2 (e ▸ hg)
    exact ⟨by omega,z.2⟩
  ·have e:(jB gs (n + 1)).sum=2 ^ n ||| (jB gs n).sum:=by
    have e1:jB gs (n + 1)=jB gs n++[2 ^ n]:=by
     unfold jB
     rw [List.range_succ,List.filter_append,List.filter_cons,if_pos (by simp [hg])]
     simp
    have:=Nat.two_pow_add_eq_or_of_lt h1 1
    rw [Nat.mul_one] at this
    rw [e1,← this,List.sum_append]
    simp
    omega
   rw [e]
   refine ⟨Nat.or_lt_two_pow (by omega) (by omega),fun k=>?_⟩
   rw [Nat.testBit_or,Bool.or_eq_true,h2 k,Nat.testBit_two_pow,decide_eq_true_iff]
   constructor
   ·rintro (z | z)
    ·exact ⟨by omega,z ▸ hg⟩
    ·exact ⟨by omega,z.2⟩
   ·intro z
    by_cases hk:k=n
    ·exact .inl hk.symm
    ·exact .inr ⟨by omega,z.2⟩
theorem int_nin {K:W.Frag} {H:Hp} {g:Addr} {gs:List Nat} {k:Nat} {Q:VK} (h:H g=some (.lst (gs.map iV))) (q:Q (.bl (!decide (k∈gs))) H):qfT K true (iV k) (.ref g) H Q:=by
 classical
 refine .inr (.inr ⟨g,gs.map iV,fun z=>eqV z (iV k),1,rfl,SqL.of h,by decide,fun z hz=>?_,?_⟩)
 ·obtain ⟨j,hj,rfl⟩:=List.mem_map.mp hz
  exact .flat rfl rfl
 ·have e:(gs.map iV).any (fun z=>eqV z (iV k))=decide (k∈gs):=by
   rw [Bool.eq_iff_iff,List.any_eq_true,decide_eq_true_iff]
   constructor
   ·rintro ⟨z,hz,e⟩
    obtain ⟨j,hj,rfl⟩:=List.mem_map.mp hz
    have e1:=jI (j:Int) (k:Int)
    rw [if_neg (by decide)] at e1
    rw [e1,decide_eq_true_iff] at e
    have:j=k:=by omega
    exact this ▸ hj
   ·intro hk
    refine ⟨iV k,List.mem_map.mpr ⟨k,hk,rfl⟩,?_⟩
    have e1:=jI (k:Int) (k:Int)
    rw [if_neg (by decide)] at e1
    rw [e1]
    exact decide_eq_true rfl
  rw [if_pos rfl,e]
  exact q
def qfG:Sp:=fun vs H Q _=>∃ (g:Addr) (n:Nat) (gs:List Nat),vs=[.int (n:Int),.ref g]∧n≤14∧H g=some (.lst (gs.map iV))∧∀ (H':Hp),L2.Same H H'→Q (.int ((jB gs n).sum:Nat)) H'
section
variable {P:Program} {w:World} {K:W.Frag} {mg:Str→Option Value} {base:Heap} {cc:Nat→Addr} {cw:Addr}
theorem ok_rmJ {f:Addr} {fd:FuncData} (F:Fun K "_law_room" "_law_room" zu f fd) (T:Txt K mg cc cw):FnOk P w K mg base CX0 1 f fd ["_law_many_here", "_law_gone"] qfG:=by
 refine F.ok sc_l_room (fun vs H Q E h=>?_) fun cdv A outer s H vs Q E hr h=>?_
 ·obtain ⟨g,n,gs,rfl,_⟩:=h;rfl
 ·obtain ⟨g,n,gs,rfl,hn,hg,q⟩:=h
  have hu:=zX hr
  refine ⟨_,(qf (qq (qk (k_sum (K:=K) rfl rfl) rfl T.b_sum PyProof.Rows.boot_sum (qa (j2 (sc:=qe zu) (XN:=["_law_many_here", "_law_gone"]) ["_law_k", "_law_gone"] 1 [1] rfl rfl rfl (by decide +kernel) rfl (by decide +kernel)
  (qT rfl T.b_range (qa (pv 0) qc)) (fun _ _ _ _=>(qr (i:=0) (show (["_law_k", "_law_gone"]:List Str).Nodup by decide +kernel) rfl (Or.inl rfl))) jg
  (fun _ _ _ _=>(jD (qt (qbu (K:=K) rfl hu) (pv 0) (pv 1) (by with_unfolding_all rfl))))
  (fun _ _ _ _=>(qp qaV qg (pv 0)))) qc)))),?_⟩
  walk_at "vc"
  refine ⟨(n:Int),rfl,by omega,by omega,?_⟩
  rw [Int.toNat_natCast]
  refine jV (lo:=0) (fun i ys J=>J=H∧ys=((jB gs i).map fun (k:Nat)=>(k:Int)).map V.int) ⟨rfl,rfl⟩ (fun i ys J hi hp=>?_) fun ys J hp=>?_
  ·obtain ⟨rfl,rfl⟩:=hp
   rw [Int.zero_add]
   walk_at "vc"
   refine int_nin hg ?_
   walk_at "vc"
   have e1:jB gs (i + 1)=jB gs i++(([i].filter fun k=>!decide (k∈gs)).map fun k=>2 ^ k):=by
    unfold jB
    rw [List.range_succ,List.filter_append,List.map_append]
   have hle:(jB gs i).length≤i:=by
    unfold jB
    rw [List.length_map]
    exact Nat.le_trans (List.length_filter_le _ _) (by rw [List.length_range];exact Nat.le_refl _)
   refine jk (fun hc=>?_) (fun hc=>?_)
   ·walk_at "vc"
    refine vI ⟨by omega,by omega,by decide⟩ ?_
    rw [qcB]
    refine ⟨by rw [List.length_map,List.length_map];exact qh (by omega),rfl,?_⟩
    rw [e1,List.filter_cons,if_pos hc]
    simp
   ·refine ⟨rfl,?_⟩
    rw [e1,List.filter_cons,if_neg hc]
    simp
  ·obtain ⟨rfl,rfl⟩:=hp
   have hle:(jB gs n).length≤n:=by
    unfold jB
    rw [List.length_map]
    exact Nat.le_trans (List.length_filter_le _ _) (by rw [List.length_range];exact Nat.le_refl _)
   refine ⟨by rw [List.length_map,List.length_map];exact Nat.le_of_lt (qh (by omega)),fun b hb=>?_⟩
   walk_at "vc"
   refine ⟨b,_,rfl,SqL.of qb,?_⟩
   have es:∀ xs:List Nat,(xs.map fun (k:Nat)=>(k:Int)).sum=((xs.sum:Nat):Int):=fun xs=>by
    induction xs with
    | nil=>rfl
    | cons a l ih=>rw [List.map_cons,List.sum_cons,List.sum_cons,ih];omega
   rw [es]
   exact q _ (qY (L2.Same.refl J) hb)
end
abbrev zv:Stmt:=top 39
theorem sc_l_some:FnScope ["_law_purse_here", "_law_many_here", "_law_thin", "_law_found", "_law_turn"] ["_law_purse_here", "_law_many_here", "_law_thin"] (qe zv):=⟨rfl,rfl,rfl,by decide +kernel,rfl,by decide +kernel,by decide +kernel⟩
def qfH:Sp:=fun vs H Q _=>∃ (p:Addr) (m thin:Nat),vs=[.ref p,.int (m:Int),.int (thin:Int)]∧Pu H p∧m≤14∧0 < thin∧thin < 1000∧∀ (g:Addr) (gs:List Nat) (H':Hp),But p H H'→Pu H' p→H g=none→g≠p→H' g=some (.lst (gs.map iV))→gs.Nodup→(∀ k∈gs,k < m)→Q (.ref g) H'
section
variable {P:Program} {w:World} {K:W.Frag} {mg:Str→Option Value} {base:Heap} {cc:Nat→Addr} {cw:Addr}
theorem ok_smJ {f:Addr} {fd:FuncData} (F:Fun K "_law_some" "_law_some" zv f fd) (T:Txt K mg cc cw) (D_l_take:DefOk P w K mg base CX0 1 "_law_take" ["_law_purse_here", "_law_many_here"] qcE):FnOk P w K mg base CX0 2 f fd ["_law_purse_here", "_law_many_here", "_law_thin"] qfH:=by
 refine F.ok sc_l_some (fun vs H Q E h=>?_) fun cdv A outer s H vs Q E hr h=>?_
 ·obtain ⟨p,m,thin,rfl,_⟩:=h;rfl
 ·obtain ⟨p,m,thin,rfl,hB,hm,th0,th1,q⟩:=h
  have hu:=zX hr
  refine ⟨_,(qd (zV (sc:=qe zv) (XN:=["_law_purse_here", "_law_many_here", "_law_thin", "_law_found", "_law_turn"]) ["_law_k", "_law_purse_here", "_law_thin"] 1 [0,2] rfl rfl rfl (by decide +kernel) rfl (by decide +kernel) (i:=3) sc_l_some.nd rfl rfl
  (qT rfl T.b_range (qa (pv 1) qc)) (fun _ _ _ _=>(qr (i:=0) (show (["_law_k", "_law_purse_here", "_law_thin"]:List Str).Nodup by decide +kernel) rfl (Or.inl rfl))) jg
  (fun _ _ _ _=>(jD (qt (za (K:=K) rfl hu) (qu D_l_take (hmR hr) qC (qa (pv 1) (qa (pv 2) qc))) qg (qB _))))
  (fun _ _ _ _=>(pv 0)))
 (qd (qo (i:=4) sc_l_some.nd rfl (Or.inl rfl) (qu D_l_take (hmR hr) qC (qa (pv 0) (qa (qk (qbH rfl) rfl T.b_max boot_max (qa qg (qa (qk (jT (K:=K) rfl) rfl T.b_len boot_len (qa (pv 3) qc)) qc))) qc))))
 (qf (qq (pe_rv2 (K:=K) rfl (qp (jU (K:=K) rfl) (jG (qec (K:=K) rfl) (pv 3) (j1 (pv 4)) ze) (jG (qec (K:=K) rfl) (pv 3) ze (j1 (pv 4)))) (j1 (qD (qE (K:=K) rfl hu) (qK (qa qg (qa (qeS un_neg qg) qc))) (qu D_l_take (hmR hr) qC (qa (pv 0) (qa qg qc))) (fun _ _=>rfl)))))))),?_⟩
  walk_at "vc"
  refine ⟨(m:Int),rfl,by omega,by omega,?_⟩
  rw [Int.toNat_natCast]
  refine jV (lo:=0) (fun i ys J=>But p H J∧Pu J p∧∃ gs:List Nat,ys=gs.map iV∧gs.Nodup∧(∀ k∈gs,k < i)∧gs.length≤i) ⟨fun c o _ e=>e,hB,[],rfl,.nil,(fun k hk=>by cases hk),Nat.le_refl _⟩ (fun i ys J hi hp=>?_) fun ys J hp=>?_
  ·obtain ⟨bJ,hBJ,gs,rfl,hnd,hlt,hgl⟩:=hp
   rw [Int.zero_add]
   walk_at "vc"
   refine ⟨p,thin,rfl,hBJ,th0,th1,fun d J2 hd b2 hB2=>?_⟩
   walk_at "vc"
   refine qaI ?_
   walk_at "vc"
   refine jk (fun hc=>?_) (fun hc=>?_)
   ·walk_at "vc"
    refine ⟨by rw [List.length_map];exact qh (by omega),bJ.trans7 b2,hB2,gs++[i],by rw [List.map_append];rfl,List.nodup_append.mpr ⟨hnd,List.pairwise_singleton _ _,fun a ha b hb e=>?_⟩,fun k hk=>?_,by rw [List.length_append];simp;omega⟩
    ·rw [List.mem_singleton.mp hb] at e
     have:=hlt a ha
     omega
    ·rcases List.mem_append.mp hk with z | z
     ·have:=hlt k z;omega
     ·rw [List.mem_singleton.mp z];omega
   ·exact ⟨bJ.trans7 b2,hB2,gs,rfl,hnd,(fun k hk=>by have:=hlt k hk;omega),by omega⟩
  ·obtain ⟨bJ,hBJ,gs,rfl,hnd,hlt,hgl⟩:=hp
   refine ⟨by rw [List.length_map];exact Nat.le_of_lt (qh (by omega)),fun g hg=>?_⟩
   have hgp:=hBJ.apart hg
   have b1:=bJ.new7 (o:=.lst (gs.map iV)) hg
   have eg:upd J g (.lst (gs.map iV)) g=some (.lst (gs.map iV)):=qb
   have hB1:Pu (upd J g (.lst (gs.map iV))) p:=hBJ.new hg
   generalize upd J g (.lst (gs.map iV))=H1 at b1 eg hB1
   walk_at "vc"
   refine qau eg ?_
   rw [List.length_map]
   walk_at "vc"
   refine ⟨_,_,rfl,?_⟩
   obtain ⟨M,eM,hM0,hM1⟩:∃ M:Nat,(if ((gs.length:Nat):Int) > 1 then ((gs.length:Nat):Int) else 1)=(M:Int)∧0 < M∧M < 1000:=by
    by_cases h1:1 < gs.length
    ·rw [if_pos (by omega)];exact ⟨gs.length,rfl,by omega,by omega⟩
    ·rw [if_neg (by omega)];exact ⟨1,rfl,by decide,by decide⟩
   rw [eM]
   walk_at "vc"
   refine ⟨p,M,rfl,hB1,hM0,hM1,fun tu H2 htu b2 hB2=>?_⟩
   have eg2:=b2 _ _ hgp eg
   have b02:=b1.trans7 b2
   walk_at "vc"
   refine vRv2 ?_
   walk_at "vc"
   refine .inl ⟨g,_,rfl,.of eg2,fun g1 hg1=>?_⟩
   have ed:qcq (gs.map iV) (some (tu:Int)) none=(gs.drop tu).map iV:=by rw [qb0,List.map_drop]
   rw [ed]
   have b3:=b02.new7 (o:=.lst ((gs.drop tu).map iV)) hg1
   have s3:=qY (L2.Same.refl H2) (o:=.lst ((gs.drop tu).map iV)) hg1
   have e3:upd H2 g1 (.lst ((gs.drop tu).map iV)) g1=some (.lst ((gs.drop tu).map iV)):=qb
   have hB3:Pu (upd H2 g1 (.lst ((gs.drop tu).map iV))) p:=hB2.new hg1
   generalize upd H2 g1 (.lst ((gs.drop tu).map iV))=H3 at b3 s3 e3 hB3
   walk_at "vc"
   refine .inl ⟨g,_,rfl,.of (s3 _ _ eg2),fun g2 hg2=>?_⟩
   have et:qcq (gs.map iV) none (some (tu:Int))=(gs.take tu).map iV:=by rw [qa6,List.map_take]
   rw [et]
   have b4:=b3.new7 (o:=.lst ((gs.take tu).map iV)) hg2
   have s4:=qY (L2.Same.refl H3) (o:=.lst ((gs.take tu).map iV)) hg2
   have e4:upd H3 g2 (.lst ((gs.take tu).map iV)) g2=some (.lst ((gs.take tu).map iV)):=qb
   have hB4:Pu (upd H3 g2 (.lst ((gs.take tu).map iV))) p:=hB3.new hg2
   generalize upd H3 g2 (.lst ((gs.take tu).map iV))=H4 at b4 s4 e4 hB4
   walk_at "vc"
   show qdP K (V.ref g1) (V.ref g2) H4 _
   refine .inl ⟨g1,g2,_,_,rfl,rfl,s4 _ _ e3,e4,by rw [List.length_map,List.length_map,List.length_drop,List.length_take];exact Nat.le_of_lt (qh (by omega)),fun g3 hg3=>?_⟩
   have es:(gs.drop tu).map iV++(gs.take tu).map iV=(gs.drop tu++gs.take tu).map iV:=by rw [List.map_append]
   rw [es]
   have hperm:(gs.drop tu++gs.take tu).Perm gs:=by
    have h1:=List.perm_append_comm (l₁:=gs.drop tu) (l₂:=gs.take tu)
    rwa [List.take_append_drop] at h1
   have hnd2:(gs.drop tu++gs.take tu).Nodup:=hperm.nodup_iff.mpr hnd
   have hlt2:∀ k∈gs.drop tu++gs.take tu,k < m:=fun k hk=>hlt k (hperm.mem_iff.mp hk)
   generalize gs.drop tu++gs.take tu=fs at hnd2 hlt2
   have b5:=b4.new7 (o:=.lst (fs.map iV)) hg3
   have e5:upd H4 g3 (.lst (fs.map iV)) g3=some (.lst (fs.map iV)):=qb
   have hB5:Pu (upd H4 g3 (.lst (fs.map iV))) p:=hB4.new hg3
   have hp3:=hB4.apart hg3
   generalize upd H4 g3 (.lst (fs.map iV))=H5 at b5 e5 hB5
   walk_at "vc"
   refine vU ?_
   walk_at "vc"
   refine ⟨by show 2≤sizeLine;decide,fun g4 hg4=>?_⟩
   have b6:=b5.new7 (o:=.lst [.int 1,.int (-1)]) hg4
   have s6:=qY (L2.Same.refl H5) (o:=.lst [.int 1,.int (-1)]) hg4
   have e6:upd H5 g4 (.lst [.int 1,.int (-1)]) g4=some (.lst [.int 1,.int (-1)]):=qb
   have hB6:Pu (upd H5 g4 (.lst [.int 1,.int (-1)])) p:=hB5.new hg4
   have hp4:=hB5.apart hg4
   generalize upd H5 g4 (.lst [.int 1,.int (-1)])=H6 at b6 s6 e6 hB6
   walk_at "vc"
   refine ⟨p,2,rfl,hB6,by decide,by decide,fun d H7 hd b7 hB7=>?_⟩
   have e7:=b7 _ _ hp3 (s6 _ _ e5)
   have b07:=b6.trans7 b7
   have fin:∀ (xs:List Nat) (r:Addr),H7 r=none→xs.Nodup→(∀ k∈xs,k < m)→Q (.ref r) (upd H7 r (.lst (xs.map iV))):=fun xs r hr0 h1 h2=>q r xs _ (b07.new7 hr0) (hB7.new hr0) (b07.free7 (hB7.apart hr0) hr0) (hB7.apart hr0) qb h1 h2
   have hd':d=0∨d=1:=by omega
   rcases hd' with rfl | rfl
   ·refine .inl (zZ (b7 _ _ hp4 e6) (v:=.int 1) rfl ?_)
    exact ⟨1,rfl,g3,_,rfl,.of e7,.inr ⟨rfl,fun r hr0=>fin fs r hr0 hnd2 hlt2⟩⟩
   ·refine .inl (zZ (b7 _ _ hp4 e6) (v:=.int (-1)) rfl ?_)
    exact ⟨-1,rfl,g3,_,rfl,.of e7,.inl ⟨rfl,fun r hr0=>by rw [← List.map_reverse];exact fin fs.reverse r hr0 ((List.reverse_perm fs).nodup_iff.mpr hnd2) fun k hk=>hlt2 k (List.mem_reverse.mp hk)⟩⟩
end
def qch (m k:Nat):Nat:=m - (m &&& k)
theorem and_or_dis:∀ (a b:Nat),a &&& b=0→a + b=a ||| b:=by
 intro a
 induction a using Nat.strongRecOn with
 | ind a ih =>
  intro b h
  by_cases ha:a=0
  ·subst ha;simp
  ·have h2:(a / 2) &&& (b / 2)=0:=by rw [← Nat.and_div_two,h]
   have e:=ih (a / 2) (by omega) (b / 2) h2
   have h1:(a % 2) &&& (b % 2)=0:=by
    have:=congrArg (· % 2) h
    simpa [Nat.and_mod_two_pow (n:=1)] using this
   have o2:(a ||| b) / 2=a / 2 ||| b / 2:=Nat.or_div_two
   have o1:(a ||| b) % 2=(a % 2) ||| (b % 2):=by
    simpa using Nat.or_mod_two_pow (a:=a) (b:=b) (n:=1)
   have hm:(a % 2) ||| (b % 2)=a % 2 + b % 2:=by
    rcases Nat.mod_two_eq_zero_or_one a with x | x<;>rcases Nat.mod_two_eq_zero_or_one b with y | y<;>rw [x,y] at h1 ⊢<;>first | rfl | exact absurd h1 (by decide)
   have hd:=Nat.div_add_mod (a ||| b) 2
   rw [o2,o1,hm,← e] at hd
   omega
theorem qdf (m k c:Nat):(qch m k).testBit c=(m.testBit c&&!k.testBit c):=by
 have h0:(m &&& k) &&& (m ^^^ (m &&& k))=0:=by
  apply Nat.eq_of_testBit_eq
  intro i
  simp only [Nat.testBit_and,Nat.testBit_xor,Nat.zero_testBit]
  cases m.testBit i<;>cases k.testBit i<;>rfl
 have h1:=and_or_dis _ _ h0
 have h2:(m &&& k) ||| (m ^^^ (m &&& k))=m:=by
  apply Nat.eq_of_testBit_eq
  intro i
  simp only [Nat.testBit_and,Nat.testBit_xor,Nat.testBit_or]
  cases m.testBit i<;>cases k.testBit i<;>rfl
 have h3:qch m k=m ^^^ (m &&& k):=by unfold qch;omega
 rw [h3]
 simp only [Nat.testBit_and,Nat.testBit_xor]
 cases m.testBit c<;>cases k.testBit c<;>rfl
theorem qbe (m k:Nat):Builtin.bitAnd (m:Int) (Builtin.bitNot (k:Int))=((qch m k:Nat):Int):=by
 have n1:Builtin.bitNot (k:Int)=-(k:Int) - 1:=rfl
 have n2:Builtin.bitNot (-(k:Int) - 1)=(k:Int):=by unfold Builtin.bitNot;omega
 unfold Builtin.bitAnd
 rw [n1,decide_eq_true (by omega),decide_eq_false (by omega)]
 dsimp only
 rw [n2,Int.toNat_natCast,Int.toNat_natCast]
 have:(m &&& k)≤m:=Nat.and_le_left
 unfold qch
 omega
theorem and_nat (m k:Nat):Builtin.bitAnd (m:Int) (k:Int)=((m &&& k:Nat):Int):=by
 unfold Builtin.bitAnd
 rw [decide_eq_true (by omega),decide_eq_true (by omega)]
 dsimp only
 rw [Int.toNat_natCast,Int.toNat_natCast]
inductive Rr (bs:List Nat) (r k:Nat):Nat→Prop
 | base:Rr bs r k k
 | step {a b:Nat} (h:Rr bs r k a) (t:qbd bs a b=true) (i:r.testBit b=true):Rr bs r k b
theorem Rr.trans {bs:List Nat} {r k a b:Nat} (h:Rr bs r k a) (g:Rr bs r a b):Rr bs r k b:=by
 induction g with
 | base=>exact h
 | step _ t i ih=>exact .step ih t i
theorem Rr.in_ {bs:List Nat} {r k a:Nat} (h:Rr bs r k a) (hk:r.testBit k=true):r.testBit a=true:=by
 cases h with
 | base=>exact hk
 | step _ _ i=>exact i
theorem Rr.symm {bs:List Nat} {r k a:Nat} (hs:∀ a b,qbd bs a b=true→qbd bs b a=true) (hk:r.testBit k=true) (h:Rr bs r k a):Rr bs r a k:=by
 induction h with
 | base=>exact .base
 | step h t i ih=>exact Rr.trans (.step .base (hs _ _ t) (h.in_ hk)) ih
theorem Rr.mono {bs:List Nat} {r r' k a:Nat} (hr:∀ c,r.testBit c=true→r'.testBit c=true) (h:Rr bs r k a):Rr bs r' k a:=by
 induction h with
 | base=>exact .base
 | step _ t i ih=>exact .step ih t (hr _ i)
def cnt (n P:Nat):Nat:=((List.range n).filter fun c=>P.testBit c).length
def zg (n P:Nat):List Nat:=(List.range n).filter fun c=>P.testBit c
theorem qeM (n P:Nat):cnt n P≤n:=Nat.le_trans (List.length_filter_le _ _) (by rw [List.length_range];exact Nat.le_refl _)
theorem qeN {n P f:Nat} (h:∀ c,P.testBit c=true→f.testBit c=false):cnt n (P ||| f)=cnt n P + cnt n f:=by
 unfold cnt
 induction n with
 | zero=>rfl
 | succ n ih =>
  rw [List.range_succ,List.filter_append,List.filter_append,List.filter_append,List.length_append,List.length_append,List.length_append,ih]
  have e:(P ||| f).testBit n=(P.testBit n||f.testBit n):=Nat.testBit_or ..
  have hn:=h n
  simp only [List.filter_cons,List.filter_nil,e]
  cases hp:P.testBit n<;>cases hf:f.testBit n<;>simp_all<;>omega
def Lft (bs:List Nat) (r i c:Nat):Prop:=r.testBit c=true∧∀ j,j < i→r.testBit j=true→¬ Rr bs r j c
open Classical in
noncomputable def zG (bs:List Nat) (r n:Nat):List Nat:=(List.range n).filter fun k=>decide (Lft bs r k k)
open Classical in
noncomputable def qaB (bs:List Nat) (r n k:Nat):List Nat:=(List.range n).filter fun c=>decide (Rr bs r k c)
theorem qd9 {bs:List Nat} {r ri i:Nat} (hs:∀ a b,qbd bs a b=true→qbd bs b a=true) (hi:∀ c,ri.testBit c=true↔Lft bs r i c) (hl:Lft bs r i i) (c:Nat):Rr bs ri i c↔Rr bs r i c:=by
 have up:∀ c,ri.testBit c=true→r.testBit c=true:=fun c h=>((hi c).mp h).1
 constructor
 ·exact Rr.mono up
 ·intro h
  induction h with
  | base=>exact .base
  | @step a b h t ib ih =>
   refine .step ih t ((hi b).mpr ⟨ib,fun j hj rj hjb=>hl.2 j hj rj ?_⟩)
   exact hjb.trans (Rr.symm hs hl.1 (.step h t ib))
theorem lft_next {bs:List Nat} {r ri i P:Nat} (hs:∀ a b,qbd bs a b=true→qbd bs b a=true) (hi:∀ c,ri.testBit c=true↔Lft bs r i c) (hl:Lft bs r i i) (hP:∀ c,P.testBit c=true↔Rr bs ri i c) (c:Nat):(qch ri P).testBit c=true↔Lft bs r (i + 1) c:=by
 rw [qdf,Bool.and_eq_true,hi c,Bool.not_eq_true',← Bool.not_eq_true,hP c,qd9 hs hi hl c]
 constructor
 ·rintro ⟨h1,h2⟩
  refine ⟨h1.1,fun j hj rj hjc=>?_⟩
  by_cases e:j=i
  ·subst e;exact h2 hjc
  ·exact h1.2 j (by omega) rj hjc
 ·intro h
  exact ⟨⟨h.1,fun j hj=>h.2 j (by omega)⟩,h.2 i (by omega) hl.1⟩
theorem lft_skip {bs:List Nat} {r ri i:Nat} (hi:∀ c,ri.testBit c=true↔Lft bs r i c) (hl:¬ Lft bs r i i) (c:Nat):ri.testBit c=true↔Lft bs r (i + 1) c:=by
 rw [hi c]
 constructor
 ·intro h
  refine ⟨h.1,fun j hj rj hjc=>?_⟩
  by_cases e:j=i
  ·subst e
   apply hl
   refine ⟨rj,fun j' hj' rj' hh=>h.2 j' hj' rj' (hh.trans hjc)⟩
  ·exact h.2 j (by omega) rj hjc
 ·intro h
  exact ⟨h.1,fun j hj=>h.2 j (by omega)⟩
structure WkJ (bs:List Nat) (n r i P:Nat) (L:List Nat):Prop where
 to:∀ c,P.testBit c=true→Rr bs r i c
 self:P.testBit i=true
 lin:∀ a∈L,P.testBit a=true
 cl:∀ a,P.testBit a=true→a∉L→∀ b,qbd bs a b=true→r.testBit b=true→P.testBit b=true
 lt:P < 2 ^ n
theorem WkJ.done {bs:List Nat} {n r i P:Nat} (h:WkJ bs n r i P []) (c:Nat):P.testBit c=true↔Rr bs r i c:=by
 constructor
 ·exact h.to c
 ·intro g
  induction g with
  | base=>exact h.self
  | @step a b _ t ib ih=>exact h.cl a ih (by simp) b t ib
theorem qdg {n P c:Nat} (h:P < 2 ^ n) (hc:P.testBit c=true):c < n:=by
 apply Classical.byContradiction
 intro hn
 rw [Nat.testBit_lt_two_pow (Nat.lt_of_lt_of_le h (Nat.pow_le_pow_right (by decide) (by omega)))] at hc
 cases hc
theorem WkJ.next {bs:List Nat} {n r i P:Nat} {L:List Nat} {a:Nat} (h:WkJ bs n r i P (L++[a])) (hb:∀ a,bs.getD a 0 < 2 ^ n):WkJ bs n r i (P ||| qch (bs.getD a 0 &&& r) P) (L++zg n (qch (bs.getD a 0 &&& r) P))∧2 * (n - cnt n (P ||| qch (bs.getD a 0 &&& r) P)) + (L++zg n (qch (bs.getD a 0 &&& r) P)).length < 2 * (n - cnt n P) + (L++[a]).length:=by
 generalize hf:qch (bs.getD a 0 &&& r) P=f
 have fb:∀ c,f.testBit c=true↔qbd bs a c=true∧r.testBit c=true∧P.testBit c=false:=fun c=>by
  rw [← hf,qdf,Nat.testBit_and]
  unfold qbd
  cases (bs.getD a 0).testBit c<;>cases r.testBit c<;>cases P.testBit c<;>simp
 have pa:=h.lin a (by simp)
 have fl:f < 2 ^ n:=by
  rw [← hf]
  unfold qch
  have h1:bs.getD a 0 &&& r≤bs.getD a 0:=Nat.and_le_left
  have h2:=hb a
  omega
 have hdis:∀ c,P.testBit c=true→f.testBit c=false:=fun c hc=>by
  cases e:f.testBit c with
  | false=>rfl
  | true=>have:=((fb c).mp e).2.2;rw [hc] at this;cases this
 have ob:∀ c,(P ||| f).testBit c=true↔P.testBit c=true∨f.testBit c=true:=fun c=>by rw [Nat.testBit_or,Bool.or_eq_true]
 have mf:∀ c,c∈zg n f↔f.testBit c=true:=fun c=>by
  unfold zg
  rw [List.mem_filter,List.mem_range]
  exact ⟨fun z=>z.2,fun z=>⟨qdg fl z,z⟩⟩
 refine ⟨⟨fun c hc=>?_,(ob i).mpr (.inl h.self),fun c hc=>?_,fun c hc hcl b t ib=>?_,Nat.or_lt_two_pow h.lt fl⟩,?_⟩
 ·rcases (ob c).mp hc with z | z
  ·exact h.to c z
  ·have z':=(fb c).mp z
   exact .step (h.to a pa) z'.1 z'.2.1
 ·rcases List.mem_append.mp hc with z | z
  ·exact (ob c).mpr (.inl (h.lin c (by simp [z])))
  ·exact (ob c).mpr (.inr ((mf c).mp z))
 ·have hc1:c∉L:=fun z=>hcl (List.mem_append_left _ z)
  have hc2:f.testBit c=false:=by
   cases e:f.testBit c with
   | false=>rfl
   | true=>exact absurd (List.mem_append_right L ((mf c).mpr e)) hcl
  have hcP:P.testBit c=true:=by
   rcases (ob c).mp hc with z | z
   ·exact z
   ·rw [hc2] at z;cases z
  by_cases e:c=a
  ·subst e
   cases hb':P.testBit b with
   | true=>exact (ob b).mpr (.inl hb')
   | false=>exact (ob b).mpr (.inr ((fb b).mpr ⟨t,ib,hb'⟩))
  ·refine (ob b).mpr (.inl (h.cl c hcP (fun z=>?_) b t ib))
   rcases List.mem_append.mp z with z | z
   ·exact hc1 z
   ·exact e (List.mem_singleton.mp z)
 ·rw [qeN hdis,List.length_append,List.length_append]
  have h1:=qeM n (P ||| f)
  rw [qeN hdis] at h1
  have h2:(zg n f).length=cnt n f:=rfl
  rw [h2]
  simp only [List.length_cons,List.length_nil]
  omega
theorem WkJ.start {bs:List Nat} {n r i:Nat} (hi:i < n):WkJ bs n r i (2 ^ i) [i]:=by
 have e:∀ c,(2 ^ i).testBit c=true↔i=c:=fun c=>by rw [Nat.testBit_two_pow,decide_eq_true_iff]
 exact ⟨fun c hc=>(e c).mp hc ▸ .base,(e i).mpr rfl,fun a ha=>(e a).mpr (List.mem_singleton.mp ha).symm,fun a ha hn=>absurd (List.mem_singleton.mpr ((e a).mp ha).symm) hn,Nat.pow_lt_pow_right (by decide) hi⟩
abbrev jA:Stmt:=top 38
theorem sc_l_pieces:FnScope ["_law_many_here", "_law_bits_here", "_law_room_here", "_law_found", "_law_k", "_law_piece", "_law_line", "_law_fresh"] ["_law_many_here", "_law_bits_here", "_law_room_here"] (qe jA):=⟨rfl,rfl,rfl,by decide +kernel,rfl,by decide +kernel,by decide +kernel⟩
def qfI:Sp:=fun vs H Q _=>∃ (bb:Addr) (n r:Nat) (bs:List Nat),vs=[.int (n:Int),.ref bb,.int (r:Int)]∧n≤14∧H bb=some (.lst (qam bs))∧bs.length=n∧(∀ a,bs.getD a 0 < 2 ^ n)∧(∀ a b,qbd bs a b=true→qbd bs b a=true)∧r < 2 ^ n ∧
 ∀ (l:Addr) (ls:List Addr) (H':Hp),L2.Same H H'→H l=none→H' l=some (.lst (ls.map V.ref))→All2 (fun a ks=>H' a=some (.lst (ks.map iV))) ls ((zG bs r n).map (qaB bs r n))→Q (.ref l) H'
theorem qcH (b j:Nat):(if false=true then !eqV (V.int (Builtin.bitAnd ((b:Int) / 2 ^ (j:Int).toNat) 1)) (V.int 1) else eqV (V.int (Builtin.bitAnd ((b:Int) / 2 ^ (j:Int).toNat) 1)) (V.int 1))=b.testBit j:=by
 rw [jI]
 exact qa9 b j
open Classical in
theorem reps_on {bs:List Nat} {r i:Nat} (h:Lft bs r i i):zG bs r (i + 1)=zG bs r i++[i]:=by
 unfold zG
 rw [List.range_succ,List.filter_append,List.filter_cons,if_pos (decide_eq_true h)]
 rfl
open Classical in
theorem reps_off {bs:List Nat} {r i:Nat} (h:¬ Lft bs r i i):zG bs r (i + 1)=zG bs r i:=by
 unfold zG
 rw [List.range_succ,List.filter_append,List.filter_cons,if_neg (fun z=>h (of_decide_eq_true z))]
 simp
theorem qaR {n f:Nat}:zg (n + 1) f=zg n f++if f.testBit n=true then [n] else []:=by
 unfold zg
 rw [List.range_succ,List.filter_append,List.filter_cons]
 rfl
theorem qaq (n f:Nat):(zg n f).length≤n:=qeM n f
section
variable {P:Program} {w:World} {K:W.Frag} {mg:Str→Option Value} {base:Heap} {cc:Nat→Addr} {cw:Addr}
theorem ok_pjJ {f:Addr} {fd:FuncData} (F:Fun K "_law_pieces" "_law_pieces" jA f fd) (T:Txt K mg cc cw):FnOk P w K mg base CX0 1 f fd ["_law_many_here", "_law_bits_here", "_law_room_here"] qfI:=by
 refine F.ok sc_l_pieces (fun vs H Q E h=>?_) fun cdv A outer s H vs Q E hr h=>?_
 ·obtain ⟨bb,n,r,bs,rfl,_⟩:=h;rfl
 ·obtain ⟨bb,n,r,bs,rfl,hn,hbb,hbl,hb,hsy,hr0,q⟩:=h
  have hu:=zX hr
  refine ⟨_,(qd (qo (i:=3) sc_l_pieces.nd rfl (Or.inl rfl) (qK qc))
 (qd (jt PassesOwn.never rfl (qT rfl T.b_range (qa (pv 0) qc)) (qr (i:=4) sc_l_pieces.nd rfl (Or.inl rfl))
 (qf (jf (qt (za (K:=K) rfl hu) (qp qaW (qp qcN (pv 2) (pv 4)) qg) qg (qB _)) (qd (qo (i:=5) sc_l_pieces.nd rfl (Or.inr rfl) (qp qaV qg (pv 4)))
 (qd (qo (i:=6) sc_l_pieces.nd rfl (Or.inl rfl) (qK (qa (pv 4) qc)))
 (qd (qcL PassesOwn.never (qt (qbZ (K:=K) rfl hu) (pv 6) (qK qc) (qB _))
 (qd (qo (i:=7) sc_l_pieces.nd rfl (Or.inr rfl) (qp qaW (qp qaW (qD (qE (K:=K) rfl hu) (pv 1) (qfs (K:=K) rfl PySem.F.plainAttrs_list PySem.F.slot_list_pop PySem.F.type_list_pop mtR_pop (pv 6)) (fun _ _=>rfl)) (pv 2)) (qeS qen (pv 5))))
 (qd (qo (i:=5) sc_l_pieces.nd rfl (Or.inr rfl) (qp qcp (pv 5) (pv 7)))
 (qf (qR (qdt (K:=K) rfl PySem.F.plainAttrs_list PySem.F.slot_list_extend PySem.F.type_list_extend mtR_extend (pv 6) (qa (j2 (sc:=qe jA) (XN:=["_law_many_here", "_law_bits_here", "_law_room_here", "_law_found", "_law_k", "_law_piece", "_law_line", "_law_fresh"]) ["_law_j", "_law_fresh"] 1 [7] rfl rfl rfl (by decide +kernel) rfl (by decide +kernel)
  (qT rfl T.b_range (qa (pv 0) qc)) (fun _ _ _ _=>(qr (i:=0) (show (["_law_j", "_law_fresh"]:List Str).Nodup by decide +kernel) rfl (Or.inl rfl))) jg
  (fun _ _ _ _=>(jD (qt (za (K:=K) rfl hu) (qp qaW (qp qcN (pv 1) (pv 0)) qg) qg (qB _))))
  (fun _ _ _ _=>(pv 0))) qc)))))))
 (qd (qo (i:=2) sc_l_pieces.nd rfl (Or.inl rfl) (qp qaW (pv 2) (qeS qen (pv 5))))
 (qf (qR (qdt (K:=K) rfl PySem.F.plainAttrs_list PySem.F.slot_list_append PySem.F.type_list_append q8 (pv 3) (qa (j2 (sc:=qe jA) (XN:=["_law_many_here", "_law_bits_here", "_law_room_here", "_law_found", "_law_k", "_law_piece", "_law_line", "_law_fresh"]) ["_law_j", "_law_piece"] 1 [5] rfl rfl rfl (by decide +kernel) rfl (by decide +kernel)
  (qT rfl T.b_range (qa (pv 0) qc)) (fun _ _ _ _=>(qr (i:=0) (show (["_law_j", "_law_piece"]:List Str).Nodup by decide +kernel) rfl (Or.inl rfl))) jg
  (fun _ _ _ _=>(jD (qt (za (K:=K) rfl hu) (qp qaW (qp qcN (pv 1) (pv 0)) qg) qg (qB _))))
  (fun _ _ _ _=>(pv 0))) qc)))))))) qv)))
 (qf (qq (pv 3))))),?_⟩
  walk_at "vc"
  refine ⟨by show 0≤sizeLine;decide,fun l hl=>?_⟩
  have s1:=qY (L2.Same.refl H) (o:=.lst []) hl
  have el:upd H l (.lst []) l=some (.lst []):=qb
  generalize upd H l (.lst [])=H1 at s1 el
  walk_at "vc"
  refine ⟨(n:Int),rfl,by omega,by omega,?_⟩
  rw [Int.toNat_natCast]
  refine jL (lo:=0) (n:=n) (fun i σ J=>L2.Same H J∧∃ (ri:Nat) (ls:List Addr) (y4 y5 y6 y7:Option V),σ=[some (.int (n:Int)),some (.ref bb),some (.int (ri:Int)),some (.ref l),y4,y5,y6,y7]∧ri < 2 ^ n∧(∀ c,ri.testBit c=true↔Lft bs r i c)∧J l=some (.lst (ls.map V.ref))∧All2 (fun a ks=>J a=some (.lst (ks.map iV))∧a≠l) ls ((zG bs r i).map (qaB bs r n))) ⟨s1,r,[],_,_,_,_,rfl,hr0,fun c=>⟨fun h=>⟨h,fun j hj=>absurd hj (by omega)⟩,fun h=>h.1⟩,el,.nil⟩ (fun i σ J hi hp=>?_) fun σ J hp=>?_
  ·obtain ⟨sJ,ri,ls,y4,y5,y6,y7,rfl,hri,hle,eJ,hA⟩:=hp
   rw [Int.zero_add]
   walk_at "vc"
   refine vI (by omega) ?_
   walk_at "vc"
   refine .inl (.inl (.inl ⟨rfl,rfl,?_⟩))
   rw [qcH]
   walk_at "vc"
   have lsl:ls.length≤i:=by
    rw [hA.len,List.length_map]
    unfold zG
    exact Nat.le_trans (List.length_filter_le _ _) (by rw [List.length_range];exact Nat.le_refl _)
   refine jk (fun h1=>?_) (fun h1=>?_)
   ·have hli:Lft bs r i i:=(hle i).mp h1
    walk_at "vc"
    refine vI ⟨by omega,by omega,by decide⟩ ?_
    rw [qcB]
    walk_at "vc"
    refine ⟨by show 1≤sizeLine;decide,fun ln hln=>?_⟩
    have s2:=qY (L2.Same.refl J) (o:=.lst ([i].map iV)) hln
    have eln:upd J ln (.lst ([i].map iV)) ln=some (.lst ([i].map iV)):=qb
    have eu:upd J ln (.lst [V.int (i:Int)])=upd J ln (.lst ([i].map iV)):=rfl
    rw [eu]
    have hln0:H ln=none:=sJ.free hln
    have hlnJ:∀ {c:Addr} {o:HO},J c=some o→c≠ln:=fun e z=>by rw [z,hln] at e;cases e
    generalize upd J ln (.lst ([i].map iV))=J2 at s2 eln
    walk_at "vc"
    refine ⟨fun m σ J'=>∃ (pc:Nat) (L:List Nat) (y7:Option V),σ=[some (.int (n:Int)),some (.ref bb),some (.int (ri:Int)),some (.ref l),some (.int (i:Int)),some (.int (pc:Int)),some (.ref ln),y7]∧But ln J2 J'∧J' ln=some (.lst (L.map iV))∧WkJ bs n ri i pc L∧2 * (n - cnt n pc) + L.length≤m∧2 * (n - cnt n pc) + L.length≤30,⟨_,2 ^ i,[i],_,rfl,(fun c o _ e=>e),eln,WkJ.start hi,Nat.le_refl _,by show 2 * (n - cnt n (2 ^ i)) + 1≤30;omega⟩,fun m σ J' hW=>?_⟩
    obtain ⟨pc,L,y7,rfl,b3,e3,wk,hm,h30⟩:=hW
    walk_at "vc"
    refine ⟨by show 0≤sizeLine;decide,fun e he0=>?_⟩
    have s3:=qY (L2.Same.refl J') (o:=.lst []) he0
    have ee:upd J' e (.lst []) e=some (.lst []):=qb
    generalize upd J' e (.lst [])=J3 at s3 ee
    have e3':=s3 _ _ e3
    have keep:∀ c o,J c=some o→J3 c=some o:=fun c o z=>s3 _ _ (b3 c o (hlnJ z) (s2 _ _ z))
    have hL:L=[]∨∃ L' a,L=L'++[a]:=by
     rcases List.eq_nil_or_concat L with h | ⟨L',a,h⟩
     ·exact .inl h
     ·exact .inr ⟨L',a,by rw [h,List.concat_eq_append]⟩
    rcases hL with rfl | ⟨L',a,rfl⟩
    ·refine .inr (.inl ⟨ln,e,true,1,rfl,rfl,by decide,(EqT.lst (n:=0) (e:=fun _=>true) (SqL.of e3') (SqL.of ee) rfl fun j x y h=>by (simp at h)),?_⟩)
     walk_at "vc"
     refine jk (fun h=>by cases h) fun _=>?_
     walk_at "vc"
     refine vU ?_
     walk_at "vc"
     rw [qbe]
     have eJ3:=keep _ _ eJ
     refine ⟨.inl ⟨rfl,_,.of eJ3⟩,?_⟩
     walk_at "vc"
     refine ⟨(n:Int),rfl,by omega,by omega,?_⟩
     rw [Int.toNat_natCast]
     refine jV (lo:=0) (fun k ys G=>G=J3∧ys=(zg k pc).map iV) ⟨rfl,rfl⟩ (fun k ys G hk hp=>?_) fun ys G hp=>?_
     ·obtain ⟨rfl,rfl⟩:=hp
      rw [Int.zero_add]
      walk_at "vc"
      refine vI (by omega) ?_
      walk_at "vc"
      refine .inl (.inl (.inl ⟨rfl,rfl,?_⟩))
      rw [qcH]
      walk_at "vc"
      have bl:=qaq k pc
      refine jk (fun hc=>?_) (fun hc=>?_)
      ·walk_at "vc"
       refine ⟨by rw [List.length_map];exact qh (by omega),rfl,?_⟩
       rw [qaR,if_pos hc,List.map_append]
       rfl
      ·refine ⟨rfl,?_⟩
       rw [qaR,if_neg hc,List.append_nil]
     ·obtain ⟨rfl,rfl⟩:=hp
      have bl:=qaq n pc
      refine ⟨by rw [List.length_map];exact Nat.le_of_lt (qh (by omega)),fun g hg=>?_⟩
      have s4:=qY (L2.Same.refl G) (o:=.lst ((zg n pc).map iV)) hg
      have eg:upd G g (.lst ((zg n pc).map iV)) g=some (.lst ((zg n pc).map iV)):=qb
      have gl:g≠l:=fun z=>by rw [z,eJ3] at hg;cases hg
      generalize upd G g (.lst ((zg n pc).map iV))=J4 at s4 eg
      have eJ4:=s4 _ _ eJ3
      walk_at "vc"
      refine ⟨l,_,_,rfl,rfl,eJ4,by rw [List.length_map];exact qh (by omega),?_⟩
      have wd:=wk.done
      have off:qch ri pc < 2 ^ n:=Nat.lt_of_le_of_lt (by unfold qch;omega) hri
      have ec:qaB bs r n i=zg n pc:=by
       classical
       unfold qaB zg
       apply List.filter_congr
       intro c _
       rw [Bool.eq_iff_iff,decide_eq_true_iff,wd c,qd9 hsy hle hli c]
      refine ⟨fun c o z=>?_,qch ri pc,ls++[g],_,_,_,_,rfl,off,lft_next hsy hle hli wd,by rw [qb,List.map_append];rfl,?_⟩
      ·rw [qi (fun z'=>by rw [z',hl] at z;cases z)]
       exact s4 _ _ (keep _ _ (sJ c o z))
      ·rw [reps_on hli,List.map_append]
       refine All2.snoc (hA.mono fun a ks z=>⟨by rw [qi z.2];exact s4 _ _ (keep _ _ z.1),z.2⟩) ⟨by rw [qi gl,ec];exact eg,gl⟩
    ·refine .inr (.inl ⟨ln,e,false,1,rfl,rfl,by decide,EqT.lstL (SqL.of e3') (SqL.of ee) (by simp),?_⟩)
     walk_at "vc"
     refine qcg ⟨fun σ J4=>∃ (pc:Nat) (L:List Nat) (y7:Option V),σ=[some (.int (n:Int)),some (.ref bb),some (.int (ri:Int)),some (.ref l),some (.int (i:Int)),some (.int (pc:Int)),some (.ref ln),y7]∧But ln J2 J4∧J4 ln=some (.lst (L.map iV))∧WkJ bs n ri i pc L∧2 * (n - cnt n pc) + L.length < m∧2 * (n - cnt n pc) + L.length≤30,fun σ' J4 ⟨pc',L2,y,e',b4,e4,wk',hlt,h30'⟩=>⟨_,hlt,pc',L2,y,e',b4,e4,wk',Nat.le_refl _,h30'⟩,?_⟩
     walk_at "vc"
     refine ⟨.inl ⟨rfl,_,.of e3'⟩,?_⟩
     have pa:=wk.lin a (by simp)
     have han:a < n:=qdg wk.lt pa
     refine ⟨ln,_,iV a,rfl,rfl,e3',by rw [List.length_map,List.length_append,List.getElem?_map];simp,?_⟩
     have ed:((L'++[a]).map iV).dropLast=L'.map iV:=by rw [List.map_append];simp
     rw [ed]
     have b4:But ln J2 (upd J3 ln (.lst (L'.map iV))):=fun c o hc z=>by rw [qi hc];exact s3 _ _ (b3 c o hc z)
     have e4:upd J3 ln (.lst (L'.map iV)) ln=some (.lst (L'.map iV)):=qb
     generalize upd J3 ln (.lst (L'.map iV))=J4 at b4 e4
     have hbb4:J4 bb=some (.lst (qam bs)):=b4 _ _ (hlnJ (sJ _ _ hbb)) (s2 _ _ (sJ _ _ hbb))
     refine .inl (zZ hbb4 (qH (zd (by omega))) ?_)
     walk_at "vc"
     rw [and_nat]
     refine vU ?_
     walk_at "vc"
     rw [qbe,qcA]
     obtain ⟨wk2,dec⟩:=wk.next hb
     generalize qch (bs.getD a 0 &&& ri) pc=fr at wk2 dec
     refine ⟨.inl ⟨rfl,_,.of e4⟩,?_⟩
     walk_at "vc"
     refine ⟨(n:Int),rfl,by omega,by omega,?_⟩
     rw [Int.toNat_natCast]
     refine jV (lo:=0) (fun k ys G=>G=J4∧ys=(zg k fr).map iV) ⟨rfl,rfl⟩ (fun k ys G hk hp=>?_) fun ys G hp=>?_
     ·obtain ⟨rfl,rfl⟩:=hp
      rw [Int.zero_add]
      walk_at "vc"
      refine vI (by omega) ?_
      walk_at "vc"
      refine .inl (.inl (.inl ⟨rfl,rfl,?_⟩))
      rw [qcH]
      walk_at "vc"
      have bl:=qaq k fr
      refine jk (fun hc=>?_) (fun hc=>?_)
      ·walk_at "vc"
       refine ⟨by rw [List.length_map];exact qh (by omega),rfl,?_⟩
       rw [qaR,if_pos hc,List.map_append]
       rfl
      ·refine ⟨rfl,?_⟩
       rw [qaR,if_neg hc,List.append_nil]
     ·obtain ⟨rfl,rfl⟩:=hp
      have bl:=qaq n fr
      refine ⟨by rw [List.length_map];exact Nat.le_of_lt (qh (by omega)),fun g hg=>?_⟩
      have s5:=qY (L2.Same.refl G) (o:=.lst ((zg n fr).map iV)) hg
      have eg:upd G g (.lst ((zg n fr).map iV)) g=some (.lst ((zg n fr).map iV)):=qb
      generalize upd G g (.lst ((zg n fr).map iV))=J5 at s5 eg
      walk_at "vc"
      have hL':L'.length≤30:=by rw [List.length_append] at h30;omega
      refine ⟨ln,g,_,_,rfl,rfl,s5 _ _ e4,eg,by rw [List.length_map,List.length_map];exact Nat.le_of_lt (qh (by omega)),?_⟩
      walk_at "vc"
      exact ⟨_,_,_,rfl,fun c o hc z=>by rw [qi hc];exact s5 _ _ (b4 c o hc z),by rw [qb,List.map_append],wk2,by omega,by omega⟩
   ·walk_at "vc"
    have hn1:¬ Lft bs r i i:=fun z=>h1 ((hle i).mpr z)
    exact ⟨sJ,ri,ls,_,_,_,_,rfl,hri,lft_skip hle hn1,eJ,by rw [reps_off hn1];exact hA⟩
  ·obtain ⟨sJ,ri,ls,y4,y5,y6,y7,rfl,hri,hle,eJ,hA⟩:=hp
   walk_at "vc"
   exact q l ls J sJ hl eJ (hA.mono fun a ks z=>z.1)
end
def qy (r n:Nat):List Nat:=(List.range n).filter fun k=>r.testBit k
theorem kept_mem {r n k:Nat}:k∈qy r n↔k < n∧r.testBit k=true:=by unfold qy;rw [List.mem_filter,List.mem_range]
theorem qdh (r n:Nat):(qy r n).Pairwise (· < ·):=List.Pairwise.filter _ List.pairwise_lt_range
theorem qbx {r n p q a b:Nat} (ha:(qy r n)[p]?=some a) (hb:(qy r n)[q]?=some b):p < q↔a < b:=by
 have hp:=List.pairwise_iff_getElem.mp (qdh r n)
 obtain ⟨la,ea⟩:=List.getElem?_eq_some_iff.mp ha
 obtain ⟨lb,eb⟩:=List.getElem?_eq_some_iff.mp hb
 constructor
 ·intro h
  rw [← ea,← eb]
  exact hp p q la lb h
 ·intro h
  rcases Nat.lt_trichotomy p q with z | z | z
  ·exact z
  ·subst z;rw [ea] at eb;omega
  ·have:=hp q p lb la z
   rw [ea,eb] at this
   omega
def Sub (bs ns:List Nat) (r n:Nat):Prop:=∀ p q a b,(qy r n)[p]?=some a→(qy r n)[q]?=some b→((ns.getD p 0).testBit q=true↔qbd bs a b=true)
theorem rch_of {bs ns:List Nat} {r n:Nat} (h:Sub bs ns r n) (hl:ns.length=(qy r n).length) (hb:∀ a,ns.getD a 0 < 2 ^ ns.length) {p a:Nat} (ha:(qy r n)[p]?=some a) {q:Nat} (g:Rch ns p q):∃ b,(qy r n)[q]?=some b∧Rr bs r a b:=by
 induction g with
 | base=>exact ⟨a,ha,.base⟩
 | @step c d _ t ih =>
  obtain ⟨x,hx,rx⟩:=ih
  have hd:d < (qy r n).length:=by rw [← hl];exact qdg (hb c) t
  refine ⟨_,List.getElem?_eq_getElem hd,.step rx ((h c d _ _ hx (List.getElem?_eq_getElem hd)).mp t) ?_⟩
  exact (kept_mem.mp (List.getElem_mem hd)).2
theorem of_rch {bs ns:List Nat} {r n:Nat} (h:Sub bs ns r n) (hbn:∀ a b,qbd bs a b=true→b < n) {p a:Nat} (ha:(qy r n)[p]?=some a) {b:Nat} (g:Rr bs r a b):∃ q,(qy r n)[q]?=some b∧Rch ns p q:=by
 induction g with
 | base=>exact ⟨p,ha,.base⟩
 | @step c d _ t i ih =>
  obtain ⟨x,hx,rx⟩:=ih
  have hd:d∈qy r n:=kept_mem.mpr ⟨hbn _ _ t,i⟩
  obtain ⟨q,hq⟩:=List.getElem?_of_mem hd
  exact ⟨q,hq,.step rx ((h x q _ _ hx hq).mpr t)⟩
theorem qcI {bs ns:List Nat} {r n:Nat} (h:Sub bs ns r n) (hl:ns.length=(qy r n).length) (hb:∀ a,ns.getD a 0 < 2 ^ ns.length) (hbn:∀ a b,qbd bs a b=true→b < n) {p q a b:Nat} (ha:(qy r n)[p]?=some a) (hq:(qy r n)[q]?=some b):Rch ns p q↔Rr bs r a b:=by
 constructor
 ·intro g
  obtain ⟨b',e,z⟩:=rch_of h hl hb ha g
  rw [hq] at e
  cases e
  exact z
 ·intro g
  obtain ⟨q',e,z⟩:=of_rch h hbn ha g
  have:q'=q:=by
   rcases Nat.lt_trichotomy q' q with y | y | y
   ·have:=(qbx e hq).mp y;omega
   ·exact y
   ·have:=(qbx hq e).mp y;omega
  rw [this] at z
  exact z
theorem rep_iff {bs ns:List Nat} {r n:Nat} (h:Sub bs ns r n) (hl:ns.length=(qy r n).length) (hb:∀ a,ns.getD a 0 < 2 ^ ns.length) (hbn:∀ a b,qbd bs a b=true→b < n) {p a:Nat} (ha:(qy r n)[p]?=some a):qcC ns p=true↔Lft bs r a a:=by
 rw [isRep_iff]
 have hk:=kept_mem.mp (List.mem_of_getElem? ha)
 constructor
 ·intro g
  refine ⟨hk.2,fun j hj rj z=>?_⟩
  obtain ⟨q,hq⟩:=List.getElem?_of_mem (kept_mem.mpr ⟨by omega,rj⟩:j∈qy r n)
  exact g q ((qbx hq ha).mpr hj) ((qcI h hl hb hbn hq ha).mpr z)
 ·intro g j hj z
  have hjl:j < (qy r n).length:=Nat.lt_trans hj (List.getElem?_eq_some_iff.mp ha).1
  have hjj:=List.getElem?_eq_getElem hjl
  exact g.2 _ ((qbx hjj ha).mp hj) (kept_mem.mp (List.getElem_mem hjl)).2 ((qcI h hl hb hbn hjj ha).mp z)
theorem qdi (K:List Nat):(List.range K.length).map (fun i=>K.getD i 0)=K:=by
 refine List.ext_getElem (by simp) fun i h1 h2=>?_
 rw [List.getElem_map,List.getElem_range,List.getD_eq_getElem?_getD,List.getElem?_eq_getElem h2]
 rfl
theorem qby {K:List Nat} {p:Nat} (h:p < K.length):K[p]?=some (K.getD p 0):=by rw [List.getD_eq_getElem?_getD,List.getElem?_eq_getElem h];rfl
theorem qdj (K:List Nat) (f:Nat→Bool):K.filter f=((List.range K.length).filter fun p=>f (K.getD p 0)).map fun p=>K.getD p 0:=by
 conv=>lhs;rw [← qdi K]
 rw [List.filter_map]
 rfl
theorem qdk {r n:Nat} (f:Nat→Bool) (h:∀ k,k < n→f k=true→r.testBit k=true):(List.range n).filter f=(qy r n).filter f:=by
 unfold qy
 rw [List.filter_filter]
 apply List.filter_congr
 intro k hk
 have:=h k (List.mem_range.mp hk)
 cases e:f k with
 | false=>rfl
 | true=>rw [this e];rfl
open Classical in
theorem pieces_eq {ss:List Str} {bs ns:List Nat} {r:Nat} (hn:ss.Nodup) (h:Sub bs ns r ss.length) (hl:ns.length=(qy r ss.length).length) (hb:∀ a,ns.getD a 0 < 2 ^ ns.length) (hbn:∀ a b,qbd bs a b=true→b < ss.length) :
  (qbC ns ((qy r ss.length).map (tn ss)).length).map (zY ((qy r ss.length).map (tn ss)) ns)=((zG bs r ss.length).map (qaB bs r ss.length)).map fun c=>c.map (tn ss):=by
 have hK:∀ k∈qy r ss.length,k < ss.length∧r.testBit k=true:=fun k hk=>kept_mem.mp hk
 have e1:zG bs r ss.length=((List.range (qy r ss.length).length).filter fun p=>qcC ns p).map fun p=>(qy r ss.length).getD p 0:=by
  have:zG bs r ss.length=(qy r ss.length).filter fun k=>decide (Lft bs r k k):=qdk _ fun k _ hk=>(of_decide_eq_true hk).1
  rw [this,qdj]
  congr 1
  apply List.filter_congr
  intro p hp
  rw [Bool.eq_iff_iff,decide_eq_true_iff]
  exact (rep_iff h hl hb hbn (qby (List.mem_range.mp hp))).symm
 have e2:∀ p,p < (qy r ss.length).length→zY ((qy r ss.length).map (tn ss)) ns p=(qaB bs r ss.length ((qy r ss.length).getD p 0)).map (tn ss):=fun p hp=>by
  have hat:=qby hp
  have hka:=hK _ (List.mem_of_getElem? hat)
  have c1:qaB bs r ss.length ((qy r ss.length).getD p 0)=(qy r ss.length).filter fun c=>decide (Rr bs r ((qy r ss.length).getD p 0) c):=qdk _ fun k _ hk=>(of_decide_eq_true hk).in_ hka.2
  have nd:((qy r ss.length).map (tn ss)).Nodup:=by
   refine List.pairwise_map.mpr ((qdh r ss.length).imp_of_mem fun {a b} ha hb' hlt e=>?_)
   have:=qbc hn (hK a ha).1 (hK b hb').1 e
   omega
  rw [c1,qdj]
  unfold zY
  have c2:(qy r ss.length).map (tn ss)=(List.range (qy r ss.length).length).map fun q=>tn ss ((qy r ss.length).getD q 0):=by
   conv=>lhs;rw [← qdi (qy r ss.length)]
   rw [List.map_map]
   rfl
  have c3:∀ q,q < (qy r ss.length).length→((qy r ss.length).map (tn ss)).idxOf (tn ss ((qy r ss.length).getD q 0))=q:=fun q hq=>qeI nd (by rw [List.getElem?_map,qby hq];rfl)
  generalize hM:(qy r ss.length).map (tn ss)=M at c2 c3
  rw [c2,List.filter_map,List.map_map,← c2]
  have c4:(List.range (qy r ss.length).length).filter ((fun s=>decide (Rch ns p (M.idxOf s))) ∘ fun q=>tn ss ((qy r ss.length).getD q 0))=(List.range (qy r ss.length).length).filter fun q=>decide (Rr bs r ((qy r ss.length).getD p 0) ((qy r ss.length).getD q 0)):=by
   apply List.filter_congr
   intro q hq
   have hq':=List.mem_range.mp hq
   show decide (Rch ns p (M.idxOf (tn ss ((qy r ss.length).getD q 0))))=_
   rw [c3 q hq',Bool.eq_iff_iff,decide_eq_true_iff,decide_eq_true_iff]
   exact qcI h hl hb hbn hat (qby hq')
  rw [c4]
  rfl
 rw [e1,List.map_map,List.map_map]
 unfold qbC
 rw [List.length_map]
 apply List.map_congr_left
 intro p hp
 exact e2 p (List.mem_range.mp (List.mem_filter.mp hp).1)
abbrev qF:Stmt:=top 11
theorem sc_are_unlike_places:FnScope ["web", "thing", "seen", "place"] ["web", "thing"] (qe qF):=⟨rfl,rfl,rfl,by decide +kernel,rfl,by decide +kernel,by decide +kernel⟩
def qef (seen:List Str):List (Key×V):=seen.map fun s=>(.inr s,.bl true)
theorem qbf (y:Str):∀ seen:List Str,(zL (qef seen) (.inr y:Key)).isSome=decide (y∈seen)
 | []=>rfl
 | s::r=>by
  by_cases e:s=y
  ·subst e
   show (zL (((.inr s:Key),V.bl true)::qef r) _).isSome=_
   rw [decide_eq_true (by simp)]
   simp [zL]
  ·show (zL (((.inr s:Key),V.bl true)::qef r) _).isSome=_
   rw [jh (p:=((.inr s:Key),V.bl true)) (fun z=>e (Sum.inr.inj z)),qbf y r]
   apply decide_eq_decide.mpr
   simp [Ne.symm e]
theorem yesK_put {y:Str} {seen:List Str} (h:y∉seen):qcf (qef seen) (.inr y:Key) (.bl true)=qef (seen++[y]):=by
 have:zL (qef seen) (.inr y:Key)=none:=by
  have:=qbf y seen
  rw [decide_eq_false h] at this
  exact Option.isNone_iff_eq_none.mp (by rw [← Option.not_isSome,this];rfl)
 rw [qcT _ this]
 unfold qef
 rw [List.map_append]
 rfl
def unl (ss:List Str):List Str→List V→Bool
 | _,[]=>true
 | seen,x::r=>if qw ss x=true then (if qG x∈seen then false else unl ss (seen++[qG x]) r) else false
def qfU (cw:Addr):Sp:=fun vs H Q _=>∃ (p x:Addr) (ss:List Str) (ns:List Nat) (v:V),vs=[.ref x,v]∧WebAt cw H x ss ns∧Th p H 3 v ∧
 ((∃ (a:Addr) (xs:List V),v=.ref a∧H a=some (.lst xs)∧(∀ y∈xs,Th p H 2 y)∧xs.length≤1000∧∀ H',L2.Same H H'→Q (.bl (unl ss [] xs)) H')∨((∀ (a:Addr) (xs:List V),v=.ref a→H a≠some (.lst xs))∧∀ H',L2.Same H H'→Q (.bl false) H'))
section
variable {P:Program} {w:World} {K:W.Frag} {mg:Str→Option Value} {base:Heap} {cc:Nat→Addr} {cw:Addr}
theorem ok_ul {f:Addr} {fd:FuncData} (F:Fun K "are_unlike_places" "are_unlike_places" qF f fd) (T:Txt K mg cc cw) (D_Web_has_place:MethOk P w K mg base CX0 3 cw "has_place" ["self", "thing"] (qe0 cw)):FnOk P w K mg base CX0 4 f fd ["web", "thing"] (qfU cw):=by
 refine F.ok sc_are_unlike_places (fun vs H Q E h=>?_) fun cdv A outer s H vs Q E hr h=>?_
 ·obtain ⟨p,x,ss,ns,v,rfl,_⟩:=h;rfl
 ·obtain ⟨p,x,ss,ns,v,rfl,hW,hv,hc⟩:=h
  have hu:=zX hr
  refine ⟨_,(qd (jf (jK (jr (qk (qbl (K:=K) rfl) rfl T.b_isinstance boot_isinstance (qa (pv 1) (qa (jQ (v:=.ty "list") rfl T.b_list boot_list rfl) qc))))) (qf (qq zA)) qv)
 (qd (qo (i:=2) sc_are_unlike_places.nd rfl (Or.inl rfl) qaL)
 (qd (jt PassesOwn.never rfl (jo (K:=K) rfl (pv 1)) (qr (i:=3) sc_are_unlike_places.nd rfl (Or.inl rfl))
 (qd (jf (PW.pt (qcl (jK (jr (zM D_Web_has_place (hmR hr) (pv 0) (qa (pv 3) qc)))) (qbg (qt (qdV (K:=K) rfl hu) (pv 3) (pv 2) (by with_unfolding_all rfl))))) (qf (qq zA)) qv)
 (qf (qab zA (qaa (pv 2) (pv 3) (qaj hu))))))
 (qf (qq zA))))),?_⟩
  walk_at "vc"
  rcases hc with ⟨a,xs,rfl,ha,hxs,hxl,q⟩ | ⟨hno,q⟩
  ·refine qcw (.inl (.lst ha)) rfl (qav K "list" (by simp) "list" (by simp)) ?_
   walk_at "vc"
   refine jk (fun h=>by cases h) fun _=>?_
   walk_at "vc"
   intro d hd
   have s1:=qY (L2.Same.refl H) (o:=.dK []) hd
   have ed:upd H d (.dK []) d=some (.dK (qef [])):=qb
   generalize upd H d (.dK [])=H1 at s1 ed
   obtain ⟨wx,dd,ol,nn,hb,_⟩:=id hW
   walk_at "vc"
   refine .inl ⟨⟨_,.of (s1 _ _ ha)⟩,jS (xs:=xs) (fun i σ J=>L2.Same H J∧∃ y3,σ=[some (.ref x),some (.ref a),some (.ref d),y3]∧J d=some (.dK (qef ((xs.take i).map qG)))∧unl ss [] xs=unl ss ((xs.take i).map qG) (xs.drop i)) ⟨s1,_,rfl,ed,rfl⟩ (fun i σ J _ hp=>.of (hp.1 _ _ ha)) (fun i y σ J hy hp=>?_) fun σ J hp=>?_⟩
   ·obtain ⟨sJ,y3,rfl,edJ,hun⟩:=hp
    have hil:i < xs.length:=(List.getElem?_eq_some_iff.mp hy).1
    have hdr:xs.drop i=y::xs.drop (i + 1):=by
     rw [List.drop_eq_getElem_cons hil]
     have:=(List.getElem?_eq_some_iff.mp hy).2
     rw [this]
    have htk:xs.take (i + 1)=xs.take i++[y]:=by rw [List.take_add_one,hy];rfl
    rw [hdr] at hun
    have hty:=(hxs y (List.mem_of_getElem? hy)).same sJ
    walk_at "vc"
    refine ⟨x,wx,_,rfl,sJ _ _ hb,qba (by decide +kernel),?_⟩
    walk_at "vc"
    refine ⟨p,2,x,ss,ns,y,rfl,hW.same sJ,hty,fun J2 s2=>?_⟩
    walk_at "vc"
    have s02:=sJ.trans s2
    cases hpl:qw ss y with
    | false =>
     refine qcg ?_
     walk_at "vc"
     rw [show unl ss ((xs.take i).map qG) (y::xs.drop (i + 1))=false by show (if qw ss y=true then _ else _)=_;rw [if_neg (by rw [hpl];decide)]] at hun
     have:=q J2 s02
     rwa [hun] at this
    | true =>
     refine jk (fun h=>by cases h) fun _=>?_
     have hny:zF y=true:=by
      unfold qw at hpl
      split at hpl
      ·assumption
      ·cases hpl
     obtain ⟨ey,_,_⟩:=jj hny
     rw [show unl ss ((xs.take i).map qG) (y::xs.drop (i + 1))=(if qG y∈(xs.take i).map qG then false else unl ss ((xs.take i).map qG++[qG y]) (xs.drop (i + 1))) by show (if qw ss y=true then _ else _)=_;rw [if_pos hpl]] at hun
     have htk2:(xs.take (i + 1)).map qG=(xs.take i).map qG++[qG y]:=by rw [htk,List.map_append];rfl
     rw [← htk2] at hun
     generalize hz:qG y=z at hun htk2 ey
     subst ey
     walk_at "vc"
     refine .inr (.inl ⟨d,_,rfl,DGet.k (k:=Sum.inr z) (s2 _ _ edJ),?_⟩)
     rw [if_neg (by decide),qbf]
     walk_at "vc"
     refine jk (fun hm=>?_) fun hm=>?_
     ·walk_at "vc"
      rw [if_pos (of_decide_eq_true hm)] at hun
      have:=q J2 s02
      rwa [hun] at this
     ·have hm':z∉(xs.take i).map qG:=fun e=>hm (decide_eq_true e)
      rw [if_neg hm'] at hun
      walk_at "vc"
      refine .inr ⟨d,_,rfl,DPut.k (k:=Sum.inr z) (s2 _ _ edJ) (qh (by unfold qef;rw [List.length_map,List.length_map,List.length_take];omega)),?_⟩
      refine ⟨qeY s02 hd,_,rfl,?_,hun⟩
      rw [qb,yesK_put hm',htk2]
   ·obtain ⟨sJ,y3,rfl,edJ,hun⟩:=hp
    rw [List.drop_length] at hun
    walk_at "vc"
    have:=q J sJ
    rwa [hun] at this
  ·obtain ⟨t,ht,he,ty⟩:∃ t:String,t∈["NoneType", "bool", "int", "str", "list", "tuple", "dict"]∧qdR t "list"=false∧TyOf K H v (.type t):=by
    cases hv with
    | flat f l =>
     cases v with
     | non=>exact ⟨_,by simp,rfl,.non⟩
     | bl b=>exact ⟨"bool",by simp,rfl,.bl b⟩
     | int i=>exact ⟨"int",by simp,rfl,.int i⟩
     | str z=>exact ⟨"str",by simp,rfl,.str z⟩
     | _=>cases f
    | lst e ne h l=>exact absurd e (hno _ _ rfl)
    | tup e ne h l=>exact ⟨"tuple",by simp,rfl,.tup e⟩
    | dct e ne=>exact ⟨"dict",by simp,rfl,.dK e⟩
   refine qcw (.inl ty) rfl (qav K t ht "list" (by simp)) ?_
   rw [he]
   walk_at "vc"
   refine qcg ?_
   walk_at "vc"
   exact q H (L2.Same.refl H)
end
abbrev qJ:Stmt:=top 13
theorem sc_pieces_beside:FnScope ["web", "bar"] ["web", "bar"] (qe qJ):=⟨rfl,rfl,rfl,by decide +kernel,rfl,by decide +kernel,by decide +kernel⟩
theorem qdl {ss:List Str}:∀ {xs:List V} {seen:List Str},unl ss seen xs=true→qee ss xs=none
 | [],_,_=>rfl
 | x::r,seen,h=>by
  have h':(if qw ss x=true then (if qG x∈seen then false else unl ss (seen++[qG x]) r) else false)=true:=h
  show (if qw ss x=true then qee ss r else some x)=none
  by_cases hp:qw ss x=true
  ·rw [if_pos hp] at h' ⊢
   split at h'
   ·cases h'
   ·exact qdl h'
  ·rw [if_neg hp] at h'
   cases h'
def qe5 (cw:Addr):Sp:=fun vs H Q _=>∃ (p x a:Addr) (ss:List Str) (ns:List Nat) (dps:List (Str×Str)) (xs:List V),vs=[.ref x,.ref a]∧WebAt cw H x ss ns∧WG ss ns dps∧a≠p∧H a=some (.lst xs)∧(∀ y∈xs,Th p H 2 y)∧xs.length≤1000∧unl ss [] xs=true ∧
 ∀ (l:Addr) (ls:List Addr) (ns':List Nat) (H':Hp),L2.Same H H'→H l=none→jN (qX ss xs) ns' (zT dps (qX ss xs))→H' l=some (.lst (ls.map V.ref))→All2 (qfz H H' l) ls ((qbC ns' (qX ss xs).length).map (zY (qX ss xs) ns'))→Q (.ref l) H'
section
variable {P:Program} {w:World} {K:W.Frag} {mg:Str→Option Value} {base:Heap} {cc:Nat→Addr} {cw:Addr}
theorem ok_pbq {f:Addr} {fd:FuncData} (F:Fun K "pieces_beside" "pieces_beside" qJ f fd) (T:Txt K mg cc cw) (D_are_unlike_places:DefOk P w K mg base CX0 4 "are_unlike_places" ["web", "thing"] (qfU cw)) (QD_Web_without:MethOk P w K mg base CX0 8 cw "without" ["self", "places"] (fun vs H Q _=>qd7 cc cw vs H Q E0)) (D_Web_pieces:MethOk P w K mg base CX0 3 cw "pieces" ["self"] (qe3 cw)):FnOk P w K mg base CX0 9 f fd ["web", "bar"] (qe5 cw):=by
 refine F.ok sc_pieces_beside (fun vs H Q E h=>?_) fun cdv A outer s H vs Q E hr h=>?_
 ·obtain ⟨p,x,a,ss,ns,dps,xs,rfl,_⟩:=h;rfl
 ·obtain ⟨p,x,a,ss,ns,dps,xs,rfl,hW,hG,hap,ha,hxs,hxl,hun,q⟩:=h
  refine ⟨_,(qd (jf (jK (jr (qu D_are_unlike_places (hmR hr) qC (qa (pv 0) (qa (pv 1) qc))))) (qf ps_never) qv)
 (qf (qq (qa4 D_Web_pieces (hmR hr) (zM QD_Web_without (hmR hr) (pv 0) (qa (pv 1) qc)))))),?_⟩
  walk_at "vc"
  refine ⟨p,x,ss,ns,_,rfl,hW,Th.lst ha hap hxs hxl,.inl ⟨a,xs,rfl,ha,hxs,hxl,fun H1 s1=>?_⟩⟩
  rw [hun]
  obtain ⟨wx,dd,ol,nn,hb,_⟩:=id hW
  walk_at "vc"
  refine jk (fun h=>by cases h) fun _=>?_
  walk_at "vc"
  refine ⟨x,wx,_,rfl,s1 _ _ hb,qba (by decide +kernel),?_⟩
  walk_at "vc"
  refine ⟨p,x,ss,ns,dps,_,some xs,rfl,hW.same s1,hG,(Arg.lst ha hap hxs hxl).same s1,(fun h=>by cases h),(fun ys y h1 h2=>?_),fun ys h1 _ x' ns' H2 s2 hx'0 hWN hbits=>?_⟩
  ·cases h1
   rw [qdl hun] at h2
   cases h2
  ·cases h1
   obtain ⟨wx',dd',ol',nn',hb',_⟩:=id hWN.web
   walk_at "vc"
   refine ⟨x',wx',_,rfl,hb',qba (by decide +kernel),?_⟩
   walk_at "vc"
   refine ⟨x',_,ns',rfl,hWN.web,fun l ls H3 s3 hl hl3 hA=>?_⟩
   have s13:=(s1.trans s2)
   exact q l ls ns' H3 (s13.trans s3) (s13.free hl) hbits hl3 (hA.mono fun c ks z=>⟨s13.free z.1,z.2⟩)
end
abbrev qP:Stmt:=top 14
theorem sc_odd_pieces:FnScope ["web", "bar"] ["web", "bar"] (qe qP):=⟨rfl,rfl,rfl,by decide +kernel,rfl,by decide +kernel,by decide +kernel⟩
abbrev j8:Stmt:=top 15
theorem sc_lack_of:FnScope ["web", "bar"] ["web", "bar"] (qe j8):=⟨rfl,rfl,rfl,by decide +kernel,rfl,by decide +kernel,by decide +kernel⟩
def qfV (p:Addr) (H:Hp) (ss:List Str) (v:V):Prop:=Th p H 3 v∧((∃ (a:Addr) (xs:List V),v=.ref a∧H a=some (.lst xs)∧(∀ y∈xs,Th p H 2 y)∧xs.length≤1000∧unl ss [] xs=false)∨∀ (a:Addr) (xs:List V),v=.ref a→H a≠some (.lst xs))
def qcd (cc:Nat→Addr) (cw:Addr):Sp:=fun vs H Q E=>∃ (p x:Addr) (ss:List Str) (ns:List Nat) (v:V),vs=[.ref x,v]∧WebAt cw H x ss ns∧qfV p H ss v∧Rz cc H E (6,v)
def qaS (ks:List Str):Bool:=decide (ks.length % 2=1)
def qe6 (cw:Addr):Sp:=fun vs H Q _=>∃ (p x a:Addr) (ss:List Str) (ns:List Nat) (dps:List (Str×Str)) (xs:List V),vs=[.ref x,.ref a]∧WebAt cw H x ss ns∧WG ss ns dps∧a≠p∧H a=some (.lst xs)∧(∀ y∈xs,Th p H 2 y)∧xs.length≤1000∧unl ss [] xs=true ∧
 ∀ (l:Addr) (ls:List Addr) (ns':List Nat) (H':Hp),L2.Same H H'→H l=none→jN (qX ss xs) ns' (zT dps (qX ss xs))→H' l=some (.lst (ls.map V.ref))→All2 (qfz H H' l) ls (((qbC ns' (qX ss xs).length).map (zY (qX ss xs) ns')).filter qaS)→Q (.ref l) H'
def qe7 (cw:Addr):Sp:=fun vs H Q _=>∃ (p x a:Addr) (ss:List Str) (ns:List Nat) (dps:List (Str×Str)) (xs:List V),vs=[.ref x,.ref a]∧WebAt cw H x ss ns∧WG ss ns dps∧a≠p∧H a=some (.lst xs)∧(∀ y∈xs,Th p H 2 y)∧xs.length≤1000∧unl ss [] xs=true ∧
 ∀ (ns':List Nat) (H':Hp),L2.Same H H'→jN (qX ss xs) ns' (zT dps (qX ss xs))→Q (.int (((((qbC ns' (qX ss xs).length).map (zY (qX ss xs) ns')).filter qaS).length:Nat) - (xs.length:Int))) H'
theorem reps_len (ns:List Nat) (n:Nat):(qbC ns n).length≤n:=Nat.le_trans (List.length_filter_le _ _) (by rw [List.length_range];exact Nat.le_refl _)
theorem keepS_len (ss:List Str) (xs:List V):(qX ss xs).length≤ss.length:=List.length_filter_le _ _
section
variable {P:Program} {w:World} {K:W.Frag} {mg:Str→Option Value} {base:Heap} {cc:Nat→Addr} {cw:Addr}
theorem ok_pbX {f:Addr} {fd:FuncData} (F:Fun K "pieces_beside" "pieces_beside" qJ f fd) (T:Txt K mg cc cw) (D_NoBar:XMakeOk P w K mg base 2 (cc 6) "NoBar" ["self", "found"] (spX (cc 6) (qaE 6))) (D_are_unlike_places:DefOk P w K mg base CX0 4 "are_unlike_places" ["web", "thing"] (qfU cw)) (D_Web_without:MethOk P w K mg base (CX1 P w) 8 cw "without" ["self", "places"] (qd7 cc cw)) (D_Web_pieces:MethOk P w K mg base CX0 3 cw "pieces" ["self"] (qe3 cw)):FnOk P w K mg base (CX1 P w) 9 f fd ["web", "bar"] (qcd cc cw):=by
 refine F.ok1 sc_pieces_beside (fun vs H Q E h=>?_) fun cdv A outer s H vs Q E hr h=>?_
 ·obtain ⟨p,x,ss,ns,v,rfl,_⟩:=h;rfl
 ·obtain ⟨p,x,ss,ns,v,rfl,hW,⟨hv,hbad⟩,hE⟩:=h
  have go:∀ (k:VK) (E':XK),(∀ H',L2.Same H H'→k (.bl false) H')→qfU cw [.ref x,v] H k E':=fun k E' hk=>by
   refine ⟨p,x,ss,ns,v,rfl,hW,hv,?_⟩
   rcases hbad with ⟨a,xs,e,ha,hxs,hxl,hun⟩ | hno
   ·exact .inl ⟨a,xs,e,ha,hxs,hxl,by rw [hun];exact hk⟩
   ·exact .inr ⟨hno,hk⟩
  refine ⟨_,(qd (jf (jK (jr (qu D_are_unlike_places (hmR hr) qC (qa (pv 0) (qa (pv 1) qc))))) (qf (j4 (K:=K) rfl qZ (qa3 D_NoBar (hmR hr) (qa (pv 1) qc)))) qv)
 (qf (qq (qa4 D_Web_pieces (hmR hr) (qaM D_Web_without (hmR hr) qZ (pv 0) (qa (pv 1) qc)))))),?_⟩
  walk_at "vc"
  refine go _ _ fun H1 s1=>?_
  walk_at "vc"
  refine qcg ?_
  walk_at "vc"
  exact qU (T.xat 6 (by decide)) (hE.later s1)
theorem ok_odq {f:Addr} {fd:FuncData} (F:Fun K "odd_pieces" "odd_pieces" qP f fd) (T:Txt K mg cc cw) (D_pieces_beside:DefOk P w K mg base CX0 9 "pieces_beside" ["web", "bar"] (qe5 cw)):FnOk P w K mg base CX0 10 f fd ["web", "bar"] (qe6 cw):=by
 refine F.ok sc_odd_pieces (fun vs H Q E h=>?_) fun cdv A outer s H vs Q E hr h=>?_
 ·obtain ⟨p,x,a,ss,ns,dps,xs,rfl,_⟩:=h;rfl
 ·obtain ⟨p,x,a,ss,ns,dps,xs,rfl,hW,hG,hap,ha,hxs,hxl,hun,q⟩:=h
  have hu:=zX hr
  refine ⟨_,(qf (qq (j2 (sc:=qe qP) (XN:=["web", "bar"]) ["piece"] 1 [] rfl rfl rfl (by decide +kernel) rfl (by decide +kernel)
  (jo (K:=K) rfl (qu D_pieces_beside (hmR hr) qC (qa (pv 0) (qa (pv 1) qc)))) (fun _ _ _ _=>(qr (i:=0) (show (["piece"]:List Str).Nodup by decide +kernel) rfl (Or.inl rfl))) jg
  (fun _ _ _ _=>(jD (qt (za (K:=K) rfl hu) (qp jR (qk (jT (K:=K) rfl) rfl T.b_len boot_len (qa (pv 0) qc)) qg) qg (qB _))))
  (fun _ _ _ _=>(pv 0))))),?_⟩
  walk_at "vc"
  refine ⟨p,x,a,ss,ns,dps,xs,rfl,hW,hG,hap,ha,hxs,hxl,hun,fun l ls ns' H1 s1 hl hbits hl1 hA=>?_⟩
  have few:((qbC ns' (qX ss xs).length).map (zY (qX ss xs) ns')).length≤14:=by
   rw [List.length_map]
   have h1:=reps_len ns' (qX ss xs).length
   have h2:=keepS_len ss xs
   have h3:ss.length≤14:=by obtain ⟨_,_,_,_,_,_,_,_,hw⟩:=id hW;exact hw.few
   omega
  generalize hPS:(qbC ns' (qX ss xs).length).map (zY (qX ss xs) ns')=PS at hA few
  refine .inl ⟨⟨_,.of hl1⟩,jm (xs:=ls.map V.ref) (fun i ys J=>J=H1∧∃ us:List Addr,ys=us.map V.ref∧All2 (fun c ks=>H c=none∧H1 c=some (.lst (ks.map V.str))) us ((PS.take i).filter qaS)) ⟨rfl,[],rfl,.nil⟩ (fun i ys J _ hp'=>by rw [hp'.1];exact .of hl1) (fun i y ys J hy hp'=>?_) fun ys J hp'=>?_⟩
  ·obtain ⟨rfl,us,rfl,hU⟩:=hp'
   rw [List.getElem?_map] at hy
   obtain ⟨c,hc,rfl⟩:=Option.map_eq_some_iff.mp hy
   have hi:i < PS.length:=by rw [← hA.len];exact (List.getElem?_eq_some_iff.mp hc).1
   obtain ⟨ks,hks⟩:∃ ks,PS[i]?=some ks:=⟨_,List.getElem?_eq_getElem hi⟩
   have hcp:=hA.at_ i c ks hc hks
   have hul:us.length≤14:=by
    rw [hU.len]
    exact Nat.le_trans (List.length_filter_le _ _) (by rw [List.length_take];omega)
   walk_at "vc"
   refine qau hcp.2.2 ?_
   rw [List.length_map]
   walk_at "vc"
   refine vI (by decide) ?_
   walk_at "vc"
   refine qaI ?_
   have eo:decide ((ks.length:Int) % 2=1)=qaS ks:=decide_eq_decide.mpr (by omega)
   rw [eo]
   walk_at "vc"
   rw [List.take_add_one,hks,List.filter_append]
   refine jk (fun ho=>?_) (fun ho=>?_)
   ·walk_at "vc"
    refine ⟨by rw [List.length_map];exact qh (by omega),rfl,us++[c],by rw [List.map_append];rfl,?_⟩
    show All2 _ _ (_++[ks].filter qaS)
    rw [List.filter_cons,if_pos ho]
    exact hU.snoc ⟨hcp.1,hcp.2.2⟩
   ·refine ⟨rfl,us,rfl,?_⟩
    show All2 _ _ (_++[ks].filter qaS)
    rw [List.filter_cons,if_neg ho,List.filter_nil,List.append_nil]
    exact hU
  ·obtain ⟨rfl,us,rfl,hU⟩:=hp'
   have e:(ls.map V.ref).length=PS.length:=by rw [List.length_map,hA.len]
   rw [e,List.take_length] at hU
   have hul:us.length≤14:=by
    rw [hU.len]
    exact Nat.le_trans (List.length_filter_le _ _) few
   refine ⟨by rw [List.length_map];exact Nat.le_of_lt (qh (by omega)),fun g hg=>?_⟩
   have s2:=qY (L2.Same.refl J) (o:=.lst (us.map V.ref)) hg
   refine q g us ns' _ (s1.trans s2) (s1.free hg) hbits qb ?_
   rw [hPS]
   exact hU.mono fun c ks z=>⟨z.1,(fun z'=>by rw [← z',z.2] at hg;cases hg),s2 _ _ z.2⟩
theorem ok_lkq {f:Addr} {fd:FuncData} (F:Fun K "lack_of" "lack_of" j8 f fd) (T:Txt K mg cc cw) (D_odd_pieces:DefOk P w K mg base CX0 10 "odd_pieces" ["web", "bar"] (qe6 cw)):FnOk P w K mg base CX0 11 f fd ["web", "bar"] (qe7 cw):=by
 refine F.ok sc_lack_of (fun vs H Q E h=>?_) fun cdv A outer s H vs Q E hr h=>?_
 ·obtain ⟨p,x,a,ss,ns,dps,xs,rfl,_⟩:=h;rfl
 ·obtain ⟨p,x,a,ss,ns,dps,xs,rfl,hW,hG,hap,ha,hxs,hxl,hun,q⟩:=h
  refine ⟨_,(qf (qq (qp qaU (qk (jT (K:=K) rfl) rfl T.b_len boot_len (qa (qu D_odd_pieces (hmR hr) qC (qa (pv 0) (qa (pv 1) qc))) qc)) (qk (jT (K:=K) rfl) rfl T.b_len boot_len (qa (pv 1) qc))))),?_⟩
  walk_at "vc"
  refine ⟨p,x,a,ss,ns,dps,xs,rfl,hW,hG,hap,ha,hxs,hxl,hun,fun l ls ns' H1 s1 hl hbits hl1 hA=>?_⟩
  walk_at "vc"
  refine qau hl1 ?_
  rw [List.length_map,hA.len]
  walk_at "vc"
  refine qau (s1 _ _ ha) ?_
  walk_at "vc"
  exact q ns' H1 s1 hbits
end
abbrev j9:Stmt:=top 41
theorem sc_l_asked:FnScope ["_law_way", "_law_web", "_law_bar"] ["_law_way", "_law_web", "_law_bar"] (qe j9):=⟨rfl,rfl,rfl,by decide +kernel,rfl,by decide +kernel,by decide +kernel⟩
def qgF (cw:Addr):Sp:=fun vs H Q _=>∃ (p x a:Addr) (ss:List Str) (ns:List Nat) (dps:List (Str×Str)) (xs:List V) (way:Nat),vs=[.int (way:Int),.ref x,.ref a]∧way < 2∧WebAt cw H x ss ns∧WG ss ns dps∧a≠p∧H a=some (.lst xs)∧(∀ y∈xs,Th p H 2 y)∧xs.length≤1000∧unl ss [] xs=true ∧
 ∀ (l:Addr) (ls:List Addr) (ns':List Nat) (H':Hp),L2.Same H H'→H l=none→jN (qX ss xs) ns' (zT dps (qX ss xs))→H' l=some (.lst (ls.map V.ref))→All2 (qfz H H' l) ls (((qbC ns' (qX ss xs).length).map (zY (qX ss xs) ns')).filter fun ks=>decide (way=0)||qaS ks)→Q (.ref l) H'
def qgG (cc:Nat→Addr) (cw:Addr):Sp:=fun vs H Q E=>∃ (p x:Addr) (ss:List Str) (ns:List Nat) (v:V) (way:Nat),vs=[.int (way:Int),.ref x,v]∧WebAt cw H x ss ns∧qfV p H ss v∧Rz cc H E (6,v)
section
variable {P:Program} {w:World} {K:W.Frag} {mg:Str→Option Value} {base:Heap} {cc:Nat→Addr} {cw:Addr}
theorem ok_odX {f:Addr} {fd:FuncData} (F:Fun K "odd_pieces" "odd_pieces" qP f fd) (T:Txt K mg cc cw) (D_pieces_beside:DefOk P w K mg base (CX1 P w) 9 "pieces_beside" ["web", "bar"] (qcd cc cw)):FnOk P w K mg base (CX1 P w) 10 f fd ["web", "bar"] (qcd cc cw):=by
 refine F.ok1 sc_odd_pieces (fun vs H Q E h=>?_) fun cdv A outer s H vs Q E hr h=>?_
 ·obtain ⟨p,x,ss,ns,v,rfl,_⟩:=h;rfl
 ·obtain ⟨p,x,ss,ns,v,rfl,hW,hbad,hE⟩:=h
  have hu:=zX hr
  refine ⟨_,(qf (qq (j2 (sc:=qe qP) (XN:=["web", "bar"]) ["piece"] 1 [] rfl rfl rfl (by decide +kernel) rfl (by decide +kernel)
  (jo (K:=K) rfl (zD D_pieces_beside (hmR hr) qZ (qa (pv 0) (qa (pv 1) qc)))) (fun _ _ _ _=>(qr (i:=0) (show (["piece"]:List Str).Nodup by decide +kernel) rfl (Or.inl rfl))) jg
  (fun _ _ _ _=>(jD (qt (za (K:=K) rfl hu) (qp jR (qk (jT (K:=K) rfl) rfl T.b_len boot_len (qa (pv 0) qc)) qg) qg (qB _))))
  (fun _ _ _ _=>(pv 0))))),?_⟩
  walk_at "vc"
  exact ⟨p,x,ss,ns,v,rfl,hW,hbad,hE⟩
theorem ok_lkX {f:Addr} {fd:FuncData} (F:Fun K "lack_of" "lack_of" j8 f fd) (T:Txt K mg cc cw) (D_odd_pieces:DefOk P w K mg base (CX1 P w) 10 "odd_pieces" ["web", "bar"] (qcd cc cw)):FnOk P w K mg base (CX1 P w) 11 f fd ["web", "bar"] (qcd cc cw):=by
 refine F.ok1 sc_lack_of (fun vs H Q E h=>?_) fun cdv A outer s H vs Q E hr h=>?_
 ·obtain ⟨p,x,ss,ns,v,rfl,_⟩:=h;rfl
 ·obtain ⟨p,x,ss,ns,v,rfl,hW,hbad,hE⟩:=h
  refine ⟨_,(qf (qq (qp qaU (qk (jT (K:=K) rfl) rfl T.b_len boot_len (qa (zD D_odd_pieces (hmR hr) qZ (qa (pv 0) (qa (pv 1) qc))) qc)) (qk (jT (K:=K) rfl) rfl T.b_len boot_len (qa (pv 1) qc))))),?_⟩
  walk_at "vc"
  exact ⟨p,x,ss,ns,v,rfl,hW,hbad,hE⟩
theorem ok_aq {f:Addr} {fd:FuncData} (F:Fun K "_law_asked" "_law_asked" j9 f fd) (T:Txt K mg cc cw) (D_pieces_beside:DefOk P w K mg base CX0 9 "pieces_beside" ["web", "bar"] (qe5 cw)) (D_odd_pieces:DefOk P w K mg base CX0 10 "odd_pieces" ["web", "bar"] (qe6 cw)) (D_lack_of:DefOk P w K mg base CX0 11 "lack_of" ["web", "bar"] (qe7 cw)):FnOk P w K mg base CX0 12 f fd ["_law_way", "_law_web", "_law_bar"] (qgF cw):=by
 refine F.ok sc_l_asked (fun vs H Q E h=>?_) fun cdv A outer s H vs Q E hr h=>?_
 ·obtain ⟨p,x,a,ss,ns,dps,xs,way,rfl,_⟩:=h;rfl
 ·obtain ⟨p,x,a,ss,ns,dps,xs,way,rfl,hw,hW,hG,hap,ha,hxs,hxl,hun,q⟩:=h
  have hu:=zX hr
  refine ⟨_,(qd (jf (qt (za (K:=K) rfl hu) (pv 0) qg (qB _)) (qf (qq (qu D_pieces_beside (hmR hr) qC (qa (pv 1) (qa (pv 2) qc))))) qv)
 (qd (jf (qt (za (K:=K) rfl hu) (pv 0) qg (qB _)) (qf (qq (qu D_odd_pieces (hmR hr) qC (qa (pv 1) (qa (pv 2) qc))))) qv)
 (qf (qq (qu D_lack_of (hmR hr) qC (qa (pv 1) (qa (pv 2) qc))))))),?_⟩
  walk_at "vc"
  refine qaI ?_
  walk_at "vc"
  refine jk (fun h0=>?_) (fun h0=>?_)
  ·have h0':way=0:=by have:=of_decide_eq_true h0;omega
   subst h0'
   walk_at "vc"
   refine ⟨p,x,a,ss,ns,dps,xs,rfl,hW,hG,hap,ha,hxs,hxl,hun,fun l ls ns' H1 s1 hl hbits hl1 hA=>q l ls ns' H1 s1 hl hbits hl1 ?_⟩
   have e:∀ PS:List (List Str),(PS.filter fun ks=>decide ((0:Nat)=0)||qaS ks)=PS:=fun PS=>List.filter_eq_self.mpr fun _ _=>by simp
   rw [e]
   exact hA
  ·have h0':way≠0:=fun e=>h0 (decide_eq_true (by omega))
   have h1:way=1:=by omega
   subst h1
   walk_at "vc"
   refine qaI ?_
   rw [decide_eq_true (by decide)]
   walk_at "vc"
   refine qcg ?_
   walk_at "vc"
   refine ⟨p,x,a,ss,ns,dps,xs,rfl,hW,hG,hap,ha,hxs,hxl,hun,fun l ls ns' H1 s1 hl hbits hl1 hA=>q l ls ns' H1 s1 hl hbits hl1 ?_⟩
   have e:∀ PS:List (List Str),(PS.filter fun ks=>decide ((1:Nat)=0)||qaS ks)=PS.filter qaS:=fun PS=>List.filter_congr fun _ _=>by simp
   rw [e]
   exact hA
end
section
variable {P:Program} {w:World} {K:W.Frag} {mg:Str→Option Value} {base:Heap} {cc:Nat→Addr} {cw:Addr}
theorem ok_aX {f:Addr} {fd:FuncData} (F:Fun K "_law_asked" "_law_asked" j9 f fd) (T:Txt K mg cc cw) (D_pieces_beside:DefOk P w K mg base (CX1 P w) 9 "pieces_beside" ["web", "bar"] (qcd cc cw)) (D_odd_pieces:DefOk P w K mg base (CX1 P w) 10 "odd_pieces" ["web", "bar"] (qcd cc cw)) (D_lack_of:DefOk P w K mg base (CX1 P w) 11 "lack_of" ["web", "bar"] (qcd cc cw)):FnOk P w K mg base (CX1 P w) 12 f fd ["_law_way", "_law_web", "_law_bar"] (qgG cc cw):=by
 refine F.ok1 sc_l_asked (fun vs H Q E h=>?_) fun cdv A outer s H vs Q E hr h=>?_
 ·obtain ⟨p,x,ss,ns,v,way,rfl,_⟩:=h;rfl
 ·obtain ⟨p,x,ss,ns,v,way,rfl,hW,hbad,hE⟩:=h
  have hu:=zX hr
  refine ⟨_,(qd (jf (qt (za (K:=K) rfl hu) (pv 0) qg (qB _)) (qf (qq (zD D_pieces_beside (hmR hr) qZ (qa (pv 1) (qa (pv 2) qc))))) qv)
 (qd (jf (qt (za (K:=K) rfl hu) (pv 0) qg (qB _)) (qf (qq (zD D_odd_pieces (hmR hr) qZ (qa (pv 1) (qa (pv 2) qc))))) qv)
 (qf (qq (zD D_lack_of (hmR hr) qZ (qa (pv 1) (qa (pv 2) qc))))))),?_⟩
  walk_at "vc"
  refine qaI ?_
  walk_at "vc"
  refine jk (fun h0=>?_) (fun h0=>?_)
  ·walk_at "vc"
   exact ⟨p,x,ss,ns,v,rfl,hW,hbad,hE⟩
  ·walk_at "vc"
   refine qaI ?_
   walk_at "vc"
   refine jk (fun h1=>?_) (fun h1=>?_)
   ·walk_at "vc"
    exact ⟨p,x,ss,ns,v,rfl,hW,hbad,hE⟩
   ·walk_at "vc"
    exact ⟨p,x,ss,ns,v,rfl,hW,hbad,hE⟩
end
abbrev nmL (ss:List Str) (gs:List Nat):List V:=gs.map fun k=>V.str (tn ss k)
theorem qcJ (ss:List Str) (gs:List Nat):(nmL ss gs).map qG=gs.map (tn ss):=by
 unfold nmL
 rw [List.map_map]
 rfl
theorem keep_names {ss:List Str} (hn:ss.Nodup) {gs:List Nat} (hg:∀ k∈gs,k < ss.length) {r:Nat} (hr:∀ k,r.testBit k=true↔k < ss.length∧k∉gs):qX ss (nmL ss gs)=(qy r ss.length).map (tn ss):=by
 unfold qX
 rw [qcJ]
 have e:ss=(List.range ss.length).map (tn ss):=by
  refine List.ext_getElem (by simp) fun i h1 h2=>?_
  rw [List.getElem_map,List.getElem_range]
  have:=qaJ h1
  rw [List.getElem?_eq_getElem h1] at this
  exact Option.some.inj this
 generalize hM:gs.map (tn ss)=M
 conv=>lhs;rw [e]
 rw [List.filter_map]
 congr 1
 unfold qy
 apply List.filter_congr
 intro k hk
 have hk':=List.mem_range.mp hk
 show (!decide (tn ss k∈M))=r.testBit k
 have:tn ss k∈M↔k∈gs:=by
  rw [← hM,List.mem_map]
  constructor
  ·rintro ⟨j,hj,ej⟩
   rw [← qbc hn (hg j hj) hk' ej]
   exact hj
  ·exact fun z=>⟨k,z,rfl⟩
 rw [Bool.eq_iff_iff,hr k,Bool.not_eq_true',decide_eq_false_iff_not,this]
 exact ⟨fun z=>⟨hk',z⟩,fun z=>z.2⟩
theorem qce {ss:List Str} (hO:NOk ss):∀ {gs:List Nat} {seen:List Nat},(seen++gs).Nodup→(∀ k∈seen++gs,k < ss.length)→unl ss (seen.map (tn ss)) (nmL ss gs)=true
 | [],_,_,_=>rfl
 | k::r,seen,hnd,hlt=>by
  have hk:k < ss.length:=hlt k (by simp)
  have hp:qw ss (.str (tn ss k))=true:=by
   unfold qw
   have hnm:zF (.str (tn ss k))=true:=hO.nm _ (qbo hk)
   rw [if_pos hnm]
   exact decide_eq_true (qbo hk)
  have hns:¬ qG (.str (tn ss k))∈seen.map (tn ss):=fun z=>by
   obtain ⟨j,hj,e⟩:=List.mem_map.mp z
   have ejk:=qbc hO.nd (hlt j (List.mem_append_left _ hj)) hk e
   have:=(List.nodup_append.mp hnd).2.2 j hj k (by simp)
   exact this ejk
  show (if qw ss (.str (tn ss k))=true then (if qG (.str (tn ss k))∈seen.map (tn ss) then false else unl ss (seen.map (tn ss)++[qG (.str (tn ss k))]) (nmL ss r)) else false)=true
  rw [if_pos hp,if_neg hns]
  have e:seen.map (tn ss)++[qG (.str (tn ss k))]=(seen++[k]).map (tn ss):=by rw [List.map_append];rfl
  rw [e]
  exact qce hO (by rw [List.append_assoc];exact hnd) (by rw [List.append_assoc];exact hlt)
theorem sub_of {ss:List Str} (hO:NOk ss) {TI:List (Nat×Nat)} (hT:TJ ss.length TI) {bs:List Nat} (hB:BtJ ss.length TI bs) {r:Nat} {dps:List (Str×Str)} {n0:List Nat} (ad1:Adj ss n0 dps) (ad2:Adj ss n0 (TI.map (nmP ss))) {ns:List Nat} (hb:jN ((qy r ss.length).map (tn ss)) ns (zT dps ((qy r ss.length).map (tn ss)))):Sub bs ns r ss.length:=by
 intro p q a b ha hb'
 have la:=(kept_mem.mp (List.mem_of_getElem? ha)).1
 have lb:=(kept_mem.mp (List.mem_of_getElem? hb')).1
 have h1:=hb.2.2 p q (tn ss a) (tn ss b) (by rw [List.getElem?_map,ha];rfl) (by rw [List.getElem?_map,hb'];rfl)
 have ma:tn ss a∈(qy r ss.length).map (tn ss):=List.mem_map.mpr ⟨a,List.mem_of_getElem? ha,rfl⟩
 have mb:tn ss b∈(qy r ss.length).map (tn ss):=List.mem_map.mpr ⟨b,List.mem_of_getElem? hb',rfl⟩
 have kt:∀ s t,s∈(qy r ss.length).map (tn ss)→t∈(qy r ss.length).map (tn ss)→((s,t)∈zT dps ((qy r ss.length).map (tn ss))↔(s,t)∈dps):=fun s t hs ht=>by
  unfold zT
  rw [List.mem_filter]
  exact ⟨fun z=>z.1,fun z=>⟨z,by simp only [decide_eq_true hs,decide_eq_true ht];rfl⟩⟩
 have mi:∀ i j,i < ss.length→j < ss.length→((tn ss i,tn ss j)∈TI.map (nmP ss)↔(i,j)∈TI):=fun i j hi hj=>by
  rw [List.mem_map]
  constructor
  ·rintro ⟨q,hq,e⟩
   have hq2:=hT.2.1 q hq
   have e1:=qbc hO.nd (by omega) hi (congrArg Prod.fst e)
   have e2:=qbc hO.nd hq2.2 hj (congrArg Prod.snd e)
   have:q=(i,j):=Prod.ext e1 e2
   rw [← this]
   exact hq
  ·exact fun z=>⟨(i,j),z,rfl⟩
 have hd:=(ad1 a b _ _ (qaJ la) (qaJ lb)).symm.trans (ad2 a b _ _ (qaJ la) (qaJ lb))
 rw [h1,decide_eq_true_iff,kt _ _ ma mb,kt _ _ mb ma,hd,mi a b la lb,mi b a lb la,hB.2.2 a b]
abbrev jP:Stmt:=top 44
theorem sc_l_right:FnScope ["_law_web", "_law_bar", "_law_due", "_law_turns", "_law_kept", "_law_turn", "_law_way", "_law_found", "_law_wish", "_law_piece", "_law_odd"] ["_law_web", "_law_bar", "_law_due", "_law_turns"] (qe jP):=⟨rfl,rfl,rfl,by decide +kernel,rfl,by decide +kernel,by decide +kernel⟩
def qfJ (cw:Addr):Sp:=fun vs H Q _=>∃ (p x a dl:Addr) (ss:List Str) (ns:List Nat) (dps:List (Str×Str)) (gs:List Nat) (ds:List Addr) (PS:List (List Str)) (tu:Nat),vs=[.ref x,.ref a,.ref dl,.int (tu:Int)]∧tu≤2∧WebAt cw H x ss ns∧WG ss ns dps∧NOk ss∧a≠p∧H a=some (.lst (nmL ss gs))∧gs.Nodup∧(∀ k∈gs,k < ss.length)∧gs.length≤14∧PS.length≤14∧H dl=some (.lst (ds.map V.ref))∧All2 (fun d ks=>H d=some (.lst (ks.map V.str))) ds PS∧(∀ ks∈PS,ks.length≤14) ∧
 (∀ ns',jN (qX ss (nmL ss gs)) ns' (zT dps (qX ss (nmL ss gs)))→(qbC ns' (qX ss (nmL ss gs)).length).map (zY (qX ss (nmL ss gs)) ns')=PS)∧∀ H',L2.Same H H'→Q (.bl true) H'
theorem qea {p:Addr} {H:Hp} {ss:List Str} (hO:NOk ss) {gs:List Nat} (hg:∀ k∈gs,k < ss.length):∀ y∈nmL ss gs,Th p H 2 y:=fun y hy=>by
 obtain ⟨k,hk,rfl⟩:=List.mem_map.mp hy
 refine Th.flat rfl fun z e=>?_
 cases e
 have:=jO (hO.nm _ (qbo (hg k hk)))
 omega
theorem vNeI7 {K:W.Frag} {H:Hp} {i j:Int} {Q:VK} (q:Q (.bl (!decide (i=j))) H):qfS K true (.int i) (.int j) H Q:=.inl ⟨rfl,rfl,by
 have:=jI i j
 rw [if_neg (by decide)] at this
 rw [if_pos rfl,this]
 exact q⟩
theorem qbz {K:W.Frag} {H:Hp} {a b:Addr} {ks:List Str} (ha:H a=some (.lst (ks.map V.str))) (hb:H b=some (.lst (ks.map V.str))):EqT K H 1 a b true:=by
 have z:=EqT.lst (K:=K) (H:=H) (n:=0) (e:=fun _=>true) (SqL.of ha) (SqL.of hb) rfl fun j x y h1 h2=>by
  rw [h1] at h2
  cases h2
  obtain ⟨k,_,rfl⟩:=List.mem_map.mp (List.mem_of_getElem? h1)
  have e:eqV (V.str k) (V.str k)=true:=by simp [eqV]
  have:=EqD.flat (K:=K) (H:=H) (n:=0) (x:=V.str k) (y:=V.str k) rfl rfl
  rwa [e] at this
 have e:∀ m:Nat,((List.range m).all fun _=>true)=true:=fun m=>List.all_eq_true.mpr fun _ _=>rfl
 rw [e] at z
 exact z
theorem eqT_pcJ {K:W.Frag} {H:Hp} {a b:Addr} {us vs:List Addr} {PS:List (List Str)} (ha:H a=some (.lst (us.map V.ref))) (hb:H b=some (.lst (vs.map V.ref))) (hu:All2 (fun c ks=>H c=some (.lst (ks.map V.str))) us PS) (hv:All2 (fun c ks=>H c=some (.lst (ks.map V.str))) vs PS):EqT K H 2 a b true:=by
 have z:=EqT.lst (K:=K) (H:=H) (n:=1) (e:=fun _=>true) (SqL.of ha) (SqL.of hb) (by rw [List.length_map,List.length_map,hu.len,hv.len]) fun j x y h1 h2=>by
  rw [List.getElem?_map] at h1 h2
  obtain ⟨c,hc,rfl⟩:=Option.map_eq_some_iff.mp h1
  obtain ⟨d,hd,rfl⟩:=Option.map_eq_some_iff.mp h2
  have hj:j < PS.length:=by rw [← hu.len];exact (List.getElem?_eq_some_iff.mp hc).1
  have e1:=hu.at_ j c _ hc (List.getElem?_eq_getElem hj)
  have e2:=hv.at_ j d _ hd (List.getElem?_eq_getElem hj)
  by_cases e:c=d
  ·subst e;exact .self
  ·exact .deep (qbz e1 e2) e
 have e:∀ m:Nat,((List.range m).all fun _=>true)=true:=fun m=>List.all_eq_true.mpr fun _ _=>rfl
 rw [e] at z
 exact z
section
variable {P:Program} {w:World} {K:W.Frag} {mg:Str→Option Value} {base:Heap} {cc:Nat→Addr} {cw:Addr}
theorem ok_rgJ {f:Addr} {fd:FuncData} (F:Fun K "_law_right" "_law_right" jP f fd) (T:Txt K mg cc cw) (D_l_asked:DefOk P w K mg base CX0 12 "_law_asked" ["_law_way", "_law_web", "_law_bar"] (qgF cw)) (D_lack_of:DefOk P w K mg base CX0 11 "lack_of" ["web", "bar"] (qe7 cw)):FnOk P w K mg base CX0 13 f fd ["_law_web", "_law_bar", "_law_due", "_law_turns"] (qfJ cw):=by
 refine F.ok sc_l_right (fun vs H Q E h=>?_) fun cdv A outer s H vs Q E hr h=>?_
 ·obtain ⟨p,x,a,dl,ss,ns,dps,gs,ds,PS,tu,rfl,_⟩:=h;rfl
 ·obtain ⟨p,x,a,dl,ss,ns,dps,gs,ds,PS,tu,rfl,htu,hW,hG,hO,hap,ha,hnd,hlt,hgl,hPl,hdl,hD,hkl,heq,q⟩:=h
  have hu:=zX hr
  have hun:unl ss [] (nmL ss gs)=true:=qce hO (seen:=[]) hnd hlt
  have hxl:(nmL ss gs).length≤1000:=by rw [List.length_map];omega
  refine ⟨_,(qd (qo (i:=4) sc_l_right.nd rfl (Or.inl rfl) (zC (qcv (K:=K) rfl rfl) rfl T.b_list boot_list (qa (pv 1) qc)))
 (qd (jt PassesOwn.never rfl (qT rfl T.b_range (qa (pv 3) qc)) (qr (i:=5) sc_l_right.nd rfl (Or.inl rfl))
 (qd (jt PassesOwn.never rfl (qT rfl T.b_range (qa qg qc)) (qr (i:=6) sc_l_right.nd rfl (Or.inr rfl))
 (qd (qo (i:=7) sc_l_right.nd rfl (Or.inl rfl) (qu D_l_asked (hmR hr) qC (qa (qp qaU qg (pv 6)) (qa (pv 0) (qa (pv 1) qc)))))
 (qd (zV (sc:=qe jP) (XN:=["_law_web", "_law_bar", "_law_due", "_law_turns", "_law_kept", "_law_turn", "_law_way", "_law_found", "_law_wish", "_law_piece", "_law_odd"]) ["_law_piece", "_law_way"] 1 [6] rfl rfl rfl (by decide +kernel) rfl (by decide +kernel) (i:=8) sc_l_right.nd rfl rfl
  (jo (K:=K) rfl (pv 2)) (fun _ _ _ _=>(qr (i:=0) (show (["_law_piece", "_law_way"]:List Str).Nodup by decide +kernel) rfl (Or.inl rfl))) jg
  (fun _ _ _ _=>(jD (PW.pt (qcl (qt (za (K:=K) rfl hu) (pv 1) qg (qB _)) (qbg (qt (za (K:=K) rfl hu) (qp jR (qk (jT (K:=K) rfl) rfl T.b_len boot_len (qa (pv 0) qc)) qg) qg (qB _)))))))
  (fun _ _ _ _=>(pv 0)))
 (qd (jf (PW.pt (qcl (jK (jr (qk (qbl (K:=K) rfl) rfl T.b_isinstance boot_isinstance (qa (pv 7) (qa (jQ (v:=.ty "list") rfl T.b_list boot_list rfl) qc))))) (qcl (qt (qbZ (K:=K) rfl hu) (pv 7) (pv 8) (qB _)) (qbg (qt (qbZ (K:=K) rfl hu) (pv 1) (pv 4) (qB _)))))) (qf (qq zA)) qv)
 (qd (jt PassesOwn.never rfl (jo (K:=K) rfl (pv 7)) (qr (i:=9) sc_l_right.nd rfl (Or.inl rfl))
 (qf (qR (qdt (K:=K) rfl PySem.F.plainAttrs_list PySem.F.slot_list_append PySem.F.type_list_append q8 (pv 9) (qa jJ qc)))))
 (qf (qR (qfs (K:=K) rfl PySem.F.plainAttrs_list PySem.F.slot_list_clear PySem.F.type_list_clear mtR_clear (pv 7)))))))))
 (qd (qo (i:=7) sc_l_right.nd rfl (Or.inl rfl) (qu D_lack_of (hmR hr) qC (qa (pv 0) (qa (pv 1) qc))))
 (qd (zV (sc:=qe jP) (XN:=["_law_web", "_law_bar", "_law_due", "_law_turns", "_law_kept", "_law_turn", "_law_way", "_law_found", "_law_wish", "_law_piece", "_law_odd"]) ["_law_piece"] 1 [] rfl rfl rfl (by decide +kernel) rfl (by decide +kernel) (i:=10) sc_l_right.nd rfl rfl
  (jo (K:=K) rfl (pv 2)) (fun _ _ _ _=>(qr (i:=0) (show (["_law_piece"]:List Str).Nodup by decide +kernel) rfl (Or.inl rfl))) jg
  (fun _ _ _ _=>(jD (qt (za (K:=K) rfl hu) (qp jR (qk (jT (K:=K) rfl) rfl T.b_len boot_len (qa (pv 0) qc)) qg) qg (qB _))))
  (fun _ _ _ _=>(pv 0)))
 (qf (jf (PW.pt (qcl (jr (qk (qbl (K:=K) rfl) rfl T.b_isinstance boot_isinstance (qa (pv 7) (qa (jQ (v:=.ty "bool") rfl T.b_bool boot_bool rfl) qc)))) (qbg (qt (qbZ (K:=K) rfl hu) (pv 7) (qp qaU (qk (jT (K:=K) rfl) rfl T.b_len boot_len (qa (pv 10) qc)) (qk (jT (K:=K) rfl) rfl T.b_len boot_len (qa (pv 1) qc))) (qB _))))) (qf (qq zA)) qv))))))
 (qf (qq zA)))),?_⟩
  walk_at "vc"
  refine .inl ⟨a,_,rfl,.inl (.of ha),fun kp hkp=>?_⟩
  have s1:=qY (L2.Same.refl H) (o:=.lst (nmL ss gs)) hkp
  have ek:upd H kp (.lst (nmL ss gs)) kp=some (.lst (nmL ss gs)):=qb
  generalize upd H kp (.lst (nmL ss gs))=H1 at s1 ek
  walk_at "vc"
  refine ⟨(tu:Int),rfl,by omega,by omega,?_⟩
  rw [Int.toNat_natCast]
  refine jL (lo:=0) (n:=tu) (fun i σ J=>L2.Same H1 J∧∃ y5 y6 y7 y8 y9 y10,σ=[some (.ref x),some (.ref a),some (.ref dl),some (.int (tu:Int)),some (.ref kp),y5,y6,y7,y8,y9,y10]) ⟨L2.Same.refl H1,_,_,_,_,_,_,rfl⟩ (fun i σ J hi hp=>?_) fun σ J hp=>?_
  ·obtain ⟨sJ,y5,y6,y7,y8,y9,y10,rfl⟩:=hp
   walk_at "vc"
   refine ⟨2,rfl,by decide,by decide,jL (lo:=0) (n:=2) (fun i σ J=>L2.Same H1 J∧∃ y5 y6 y7 y8 y9 y10,σ=[some (.ref x),some (.ref a),some (.ref dl),some (.int (tu:Int)),some (.ref kp),y5,y6,y7,y8,y9,y10]) ⟨sJ,_,_,_,_,_,_,rfl⟩ (fun w σ J hw hp=>?_) fun σ J hp=>?_⟩
   ·obtain ⟨sJ,y5,y6,y7,y8,y9,y10,rfl⟩:=hp
    rw [Int.zero_add]
    walk_at "vc"
    have s0J:=s1.trans sJ
    have ew:(1:Int) - (w:Int)=((1 - w:Nat):Int):=by omega
    rw [ew]
    refine ⟨p,x,a,ss,ns,dps,_,1 - w,rfl,by omega,hW.same s0J,hG,hap,s0J _ _ ha,qea hO hlt,hxl,hun,fun l ls ns' J2 s2 hl hbits hl2 hA=>?_⟩
    rw [heq ns' hbits] at hA
    have s02:=s0J.trans s2
    have hdl2:=s02 _ _ hdl
    have hlH:H1 l=none:=sJ.free hl
    have esel:(PS.filter fun ks=>decide (1 - w=0)||qaS ks)=PS.filter fun ks=>decide ((w:Int)=1)||qaS ks:=List.filter_congr fun ks _=>by
     have:decide (1 - w=0)=decide ((w:Int)=1):=decide_eq_decide.mpr (by omega)
     rw [this]
    rw [esel] at hA
    walk_at "vc"
    refine .inl ⟨⟨_,.of hdl2⟩,jm (xs:=ds.map V.ref) (fun i ys G=>G=J2∧∃ us:List Addr,ys=us.map V.ref∧All2 (fun c ks=>J2 c=some (.lst (ks.map V.str))) us ((PS.take i).filter fun ks=>decide ((w:Int)=1)||qaS ks)) ⟨rfl,[],rfl,.nil⟩ (fun i ys G _ hp'=>by rw [hp'.1];exact .of hdl2) (fun i y ys G hy hp'=>?_) fun ys G hp'=>?_⟩
    ·obtain ⟨rfl,us,rfl,hU⟩:=hp'
     rw [List.getElem?_map] at hy
     obtain ⟨c,hc,rfl⟩:=Option.map_eq_some_iff.mp hy
     have hi2:i < PS.length:=by rw [← hD.len];exact (List.getElem?_eq_some_iff.mp hc).1
     obtain ⟨ks,hks⟩:∃ ks,PS[i]?=some ks:=⟨_,List.getElem?_eq_getElem hi2⟩
     have hcp:=s02 _ _ (hD.at_ i c ks hc hks)
     have hul:us.length≤14:=by
      rw [hU.len]
      exact Nat.le_trans (List.length_filter_le _ _) (by rw [List.length_take];omega)
     have fin:∀ b:Bool,b=(decide ((w:Int)=1)||qaS ks)→(b=true→(us.map V.ref).length < sizeLine∧G=G∧∃ us':List Addr,us.map V.ref++[V.ref c]=us'.map V.ref∧All2 (fun c ks=>G c=some (.lst (ks.map V.str))) us' ((PS.take (i + 1)).filter fun ks=>decide ((w:Int)=1)||qaS ks))∧(¬ b=true→G=G∧∃ us':List Addr,us.map V.ref=us'.map V.ref∧All2 (fun c ks=>G c=some (.lst (ks.map V.str))) us' ((PS.take (i + 1)).filter fun ks=>decide ((w:Int)=1)||qaS ks)):=fun b hb=>by
      rw [List.take_add_one,hks,List.filter_append]
      refine ⟨fun ht=>⟨by rw [List.length_map];exact qh (by omega),rfl,us++[c],by rw [List.map_append];rfl,?_⟩,fun ht=>⟨rfl,us,rfl,?_⟩⟩
      ·show All2 _ _ (_++[ks].filter _)
       rw [List.filter_cons,if_pos (by rw [← hb];exact ht)]
       exact hU.snoc hcp
      ·show All2 _ _ (_++[ks].filter _)
       rw [List.filter_cons,if_neg (by rw [← hb];exact ht),List.filter_nil,List.append_nil]
       exact hU
     walk_at "vc"
     refine qaI ?_
     walk_at "vc"
     refine jk (fun h1=>?_) (fun h1=>?_)
     ·refine qcg ?_
      walk_at "vc"
      exact (fin true (by rw [h1];rfl)).1 rfl
     ·have h1':decide ((w:Int)=1)=false:=by simpa using h1
      walk_at "vc"
      refine qau hcp ?_
      rw [show (ks.map V.str).length=ks.length from List.length_map ..]
      walk_at "vc"
      refine vI (by decide) ?_
      walk_at "vc"
      refine qaI ?_
      have eo:decide ((ks.length:Int) % 2=1)=qaS ks:=decide_eq_decide.mpr (by omega)
      rw [eo]
      walk_at "vc"
      have fo:=fin (qaS ks) (by rw [h1'];rfl)
      refine jk (fun ho=>?_) (fun ho=>?_)
      ·walk_at "vc"
       exact fo.1 ho
      ·exact fo.2 ho
    ·obtain ⟨rfl,us,rfl,hU⟩:=hp'
     have e:(ds.map V.ref).length=PS.length:=by rw [List.length_map,hD.len]
     rw [e,List.take_length] at hU
     have hul:us.length≤14:=by
      rw [hU.len]
      exact Nat.le_trans (List.length_filter_le _ _) hPl
     have hll:ls.length≤14:=by
      rw [hA.len]
      exact Nat.le_trans (List.length_filter_le _ _) hPl
     refine ⟨by rw [List.length_map];exact Nat.le_of_lt (qh (by omega)),fun g hg=>?_⟩
     have s3:=qY (L2.Same.refl G) (o:=.lst (us.map V.ref)) hg
     have eg:upd G g (.lst (us.map V.ref)) g=some (.lst (us.map V.ref)):=qb
     generalize upd G g (.lst (us.map V.ref))=J3 at s3 eg
     have s03:=s02.trans s3
     have hl3:=s3 _ _ hl2
     have sJ3:=(sJ.trans s2).trans s3
     have ek3:=sJ3 _ _ ek
     have enm:nmL ss gs=(gs.map (tn ss)).map V.str:=by rw [List.map_map];rfl
     walk_at "vc"
     refine qcw (.inl (.lst hl3)) rfl (qav K "list" (by simp) "list" (by simp)) ?_
     walk_at "vc"
     refine jk (fun h=>by cases h) fun _=>?_
     walk_at "vc"
     refine .inr (.inl ⟨l,g,true,2,rfl,rfl,by decide,eqT_pcJ hl3 eg (hA.mono fun c ks z=>s3 _ _ z.2.2) (hU.mono fun c ks z=>s3 _ _ z),?_⟩)
     walk_at "vc"
     refine jk (fun h=>by cases h) fun _=>?_
     walk_at "vc"
     refine .inr (.inl ⟨a,kp,true,1,rfl,rfl,by decide,qbz (by rw [← enm];exact s03 _ _ ha) (by rw [← enm];exact ek3),?_⟩)
     walk_at "vc"
     refine jk (fun h=>by cases h) fun _=>?_
     walk_at "vc"
     refine .inl ⟨⟨_,.of hl3⟩,jS (xs:=ls.map V.ref) (fun i σ G2=>L2.Same H1 G2∧G2 l=some (.lst (ls.map V.ref))∧(∀ c∈ls,c≠l∧H1 c=none∧∃ xs:List V,G2 c=some (.lst xs)∧xs.length≤14 + i)∧∃ y5 y6 y8 y9 y10,σ=[some (.ref x),some (.ref a),some (.ref dl),some (.int (tu:Int)),some (.ref kp),y5,y6,some (.ref l),y8,y9,y10]) ⟨sJ3,hl3,fun c hc=>?_,_,_,_,_,_,rfl⟩ (fun i σ G2 _ hp=>.of hp.2.1) (fun i y σ G2 hy hp=>?_) fun σ G2 hp=>?_⟩
     ·obtain ⟨ks,hks,z⟩:=hA.mem hc
      exact ⟨z.2.1,sJ.free z.1,_,s3 _ _ z.2.2,by rw [List.length_map];exact hkl ks (List.mem_filter.mp hks).1⟩
     ·obtain ⟨sG,elG,hcs,y5,y6,y8,y9,y10,rfl⟩:=hp
      rw [List.getElem?_map] at hy
      obtain ⟨c,hc,rfl⟩:=Option.map_eq_some_iff.mp hy
      have hil:i < ls.length:=(List.getElem?_eq_some_iff.mp hc).1
      obtain ⟨hcl,hc0,xs,exs,hxl2⟩:=hcs c (List.mem_of_getElem? hc)
      walk_at "vc"
      refine ⟨.inl ⟨rfl,_,.of exs⟩,?_⟩
      walk_at "vc"
      refine ⟨c,_,_,rfl,rfl,exs,qh (by omega),?_⟩
      walk_at "vc"
      refine ⟨fun d o z=>?_,by rw [qi (Ne.symm hcl)];exact elG,fun d hd=>?_,_,_,_,_,_,rfl⟩
      ·rw [qi (fun z'=>by rw [z',hc0] at z;cases z)]
       exact sG d o z
      ·obtain ⟨h1,h2,xs',e',l'⟩:=hcs d hd
       refine ⟨h1,h2,?_⟩
       by_cases hdc:d=c
       ·subst hdc
        exact ⟨_,qb,by rw [List.length_append];simp;omega⟩
       ·exact ⟨xs',by rw [qi hdc];exact e',by omega⟩
     ·obtain ⟨sG,elG,hcs,y5,y6,y8,y9,y10,rfl⟩:=hp
      walk_at "vc"
      refine ⟨.inl ⟨rfl,_,.of elG⟩,?_⟩
      refine ⟨l,_,rfl,rfl,elG,?_⟩
      refine ⟨fun d o z=>?_,_,_,_,_,_,_,rfl⟩
      rw [qi (fun z'=>by rw [z',hlH] at z;cases z)]
      exact sG d o z
   ·obtain ⟨sJ,y5,y6,y7,y8,y9,y10,rfl⟩:=hp
    walk_at "vc"
    have s0J:=s1.trans sJ
    refine ⟨p,x,a,ss,ns,dps,_,rfl,hW.same s0J,hG,hap,s0J _ _ ha,qea hO hlt,hxl,hun,fun ns' J2 s2 hbits=>?_⟩
    rw [heq ns' hbits]
    have s02:=s0J.trans s2
    have hdl2:=s02 _ _ hdl
    walk_at "vc"
    refine .inl ⟨⟨_,.of hdl2⟩,jm (xs:=ds.map V.ref) (fun i ys G=>G=J2∧ys.length=((PS.take i).filter qaS).length) ⟨rfl,rfl⟩ (fun i ys G _ hp'=>by rw [hp'.1];exact .of hdl2) (fun i y ys G hy hp'=>?_) fun ys G hp'=>?_⟩
    ·obtain ⟨rfl,hyl⟩:=hp'
     rw [List.getElem?_map] at hy
     obtain ⟨c,hc,rfl⟩:=Option.map_eq_some_iff.mp hy
     have hi2:i < PS.length:=by rw [← hD.len];exact (List.getElem?_eq_some_iff.mp hc).1
     obtain ⟨ks,hks⟩:∃ ks,PS[i]?=some ks:=⟨_,List.getElem?_eq_getElem hi2⟩
     have hcp:=s02 _ _ (hD.at_ i c ks hc hks)
     have hl3:((PS.take i).filter qaS).length≤14:=Nat.le_trans (List.length_filter_le _ _) (by rw [List.length_take];omega)
     walk_at "vc"
     refine qau hcp ?_
     rw [show (ks.map V.str).length=ks.length from List.length_map ..]
     walk_at "vc"
     refine vI (by decide) ?_
     walk_at "vc"
     refine qaI ?_
     have eo:decide ((ks.length:Int) % 2=1)=qaS ks:=decide_eq_decide.mpr (by omega)
     rw [eo]
     walk_at "vc"
     rw [List.take_add_one,hks,List.filter_append,List.length_append]
     refine jk (fun ho=>?_) (fun ho=>?_)
     ·walk_at "vc"
      refine ⟨by rw [hyl];exact qh (by omega),rfl,?_⟩
      show _=_ + ([ks].filter qaS).length
      rw [List.filter_cons,if_pos ho,List.length_append,hyl]
      rfl
     ·refine ⟨rfl,?_⟩
      show _=_ + ([ks].filter qaS).length
      rw [List.filter_cons,if_neg ho,hyl]
      rfl
    ·obtain ⟨rfl,hyl⟩:=hp'
     have e:(ds.map V.ref).length=PS.length:=by rw [List.length_map,hD.len]
     rw [e,List.take_length] at hyl
     have hl3:(PS.filter qaS).length≤14:=Nat.le_trans (List.length_filter_le _ _) hPl
     refine ⟨by rw [hyl];exact Nat.le_of_lt (qh (by omega)),fun g hg=>?_⟩
     have s3:=qY (L2.Same.refl G) (o:=.lst ys) hg
     have eg:upd G g (.lst ys) g=some (.lst ys):=qb
     generalize upd G g (.lst ys)=J3 at s3 eg
     walk_at "vc"
     refine qcw (.inl (.int _)) rfl (qav K "int" (by simp) "bool" (by simp)) ?_
     walk_at "vc"
     refine jk (fun h=>by cases h) fun _=>?_
     walk_at "vc"
     refine qau eg ?_
     rw [hyl]
     walk_at "vc"
     refine qau (s3 _ _ (s02 _ _ ha)) ?_
     walk_at "vc"
     refine vNeI7 ?_
     rw [decide_eq_true rfl]
     walk_at "vc"
     refine jk (fun h=>by cases h) fun _=>?_
     walk_at "vc"
     exact ⟨(sJ.trans s2).trans s3,_,_,_,_,_,_,rfl⟩
  ·obtain ⟨sJ,y5,y6,y7,y8,y9,y10,rfl⟩:=hp
   walk_at "vc"
   exact q J (s1.trans sJ)
end
abbrev qaC:Stmt:=top 43
theorem sc_l_bad:FnScope ["_law_purse_here", "_law_names_here", "_law_bar", "_law_at", "_law_odd", "_law_way"] ["_law_purse_here", "_law_names_here", "_law_bar"] (qe qaC):=⟨rfl,rfl,rfl,by decide +kernel,rfl,by decide +kernel,by decide +kernel⟩
def qe8 (p:Addr) (H:Hp):Hp:=fun b=>if b=p then none else H b
theorem zH {p b:Addr} {H:Hp} (h:b≠p):qe8 p H b=H b:=if_neg h
theorem outH_sub (p:Addr) (H:Hp):L2.Same (qe8 p H) H:=fun b o e=>by
 unfold qe8 at e
 split at e
 ·cases e
 ·exact e
theorem outH_but {p:Addr} {H H':Hp} (b:But p H H'):L2.Same (qe8 p H) (qe8 p H'):=fun c o e=>by
 by_cases h:c=p
 ·unfold qe8 at e;rw [if_pos h] at e;cases e
 ·rw [zH h] at e ⊢;exact b c o h e
def Sn (p:Addr) (H:Hp) (v:V) (n m:Nat):Prop:=∃ d,Dat (qe8 p H) v d∧Shw d n m
theorem Sn.but {p:Addr} {H H':Hp} {v:V} {n m:Nat} (h:Sn p H v n m) (b:But p H H'):Sn p H' v n m:=h.elim fun d h=>⟨d,h.1.same (outH_but b),h.2⟩
theorem qdm {ss:List Str}:∀ {xs:List V} {seen:List Str},seen.Nodup→unl ss seen xs=true→(∀ y∈xs,qw ss y=true)∧(seen++xs.map qG).Nodup
 | [],seen,hs,_=>⟨fun y hy=>(by cases hy),by simpa using hs⟩
 | x::r,seen,hs,h=>by
  have h':(if qw ss x=true then (if qG x∈seen then false else unl ss (seen++[qG x]) r) else false)=true:=h
  by_cases hp:qw ss x=true
  ·rw [if_pos hp] at h'
   split at h'
   ·cases h'
   ·rename_i hn
    have ih:=qdm (seen:=seen++[qG x]) (List.nodup_append.mpr ⟨hs,List.pairwise_singleton _ _,fun a ha b hb e=>by rw [List.mem_singleton.mp hb] at e;exact hn (by rw [← e];exact ha)⟩) h'
    refine ⟨fun y hy=>?_,by simpa using ih.2⟩
    rcases List.mem_cons.mp hy with rfl | z
    ·exact hp
    ·exact ih.1 y z
  ·rw [if_neg hp] at h'
   cases h'
theorem qeb {p a:Addr} {H:Hp} {ss:List Str} {xs:List V} (hap:a≠p) (ha:H a=some (.lst xs)) (hx:∀ y∈xs,Th p H 2 y) (hl:xs.length≤1000) (hb:(∃ y∈xs,qw ss y=false)∨¬ (xs.map qG).Nodup):qfV p H ss (.ref a):=by
 refine ⟨Th.lst ha hap hx hl,.inl ⟨a,xs,rfl,ha,hx,hl,?_⟩⟩
 cases e:unl ss [] xs with
 | false=>rfl
 | true =>
  obtain ⟨h1,h2⟩:=qdm (seen:=[]) .nil e
  rcases hb with ⟨y,hy,z⟩ | h
  ·rw [h1 y hy] at z;cases z
  ·exact absurd (by simpa using h2) h
theorem qeO {α:Type} [DecidableEq α]:∀ {l m:List α},l.Nodup→(∀ x∈l,x∈m)→l.length≤m.length
 | [],_,_,_=>Nat.zero_le _
 | x::r,m,hn,h=>by
  obtain ⟨h1,h2⟩:=List.nodup_cons.mp hn
  have hx:=h x List.mem_cons_self
  have ih:=qeO (l:=r) (m:=m.erase x) h2 fun y hy=>(List.mem_erase_of_ne (fun e=>h1 (by rw [← e];exact hy))).mpr (h y (List.mem_cons_of_mem _ hy))
  rw [List.length_erase_of_mem hx] at ih
  have:0 < m.length:=List.length_pos_of_mem hx
  simp only [List.length_cons]
  omega
theorem qbA {l:List Nat} {n:Nat} (hn:l.Nodup) (h:∀ k∈l,k < n):l.length≤n:=by
 have:=qeO (m:=List.range n) hn fun x hx=>List.mem_range.mpr (h x hx)
 rwa [List.length_range] at this
theorem qbp {x:Str} (h:zy x=true):∀ c∈x.cps.toList,c < 16 ^ 8:=by
 intro c hc
 unfold zy at h
 split at h
 ·have hs:=List.all_eq_true.mp h c hc
  by_cases hlt:c < 16 ^ 8
  ·exact hlt
  ·exfalso
   unfold sg at hs
   split at hs
   ·have h2:("z":Str).cps.toList=[122]:=rfl
    rw [h2] at hs
    have:([122]:List Nat) < [c]:=List.Lex.rel (by omega)
    simp [this] at hs
   ·cases hs
 ·cases h
theorem zI {ss:List Str} (hO:NOk ss) (m:Nat):∀ {gs:List Nat},(∀ k∈gs,k < ss.length)→ShwS ((gs.map (tn ss)).map PyData.str) (7 * gs.length) m
 | [],_=>.nil
 | k::gs,h=>by
  have hk:=hO.nm _ (qbo (h k List.mem_cons_self))
  exact (ShwS.cons (Shw.str (m:=m) (qbp hk)) (zI hO m (gs:=gs) fun j hj=>h j (List.mem_cons_of_mem _ hj))).mono (by have:=jO hk;simp only [List.length_cons];omega) (Nat.le_refl _)
theorem qar {H:Hp} {ss:List Str} (gs:List Nat):DatS H (nmL ss gs) ((gs.map (tn ss)).map PyData.str):=by
 have e:nmL ss gs=(gs.map (tn ss)).map V.str:=by rw [List.map_map];rfl
 rw [e]
 exact DatS.strs _
def OddJ (p:Addr) (H:Hp) (v:V):Prop:=Th p H 2 v∧Sn p H v 20 3∧∀ ss,NOk ss→qw ss v=false
theorem OddJ.but {p:Addr} {H H':Hp} {v:V} (h:OddJ p H v) (b:But p H H'):OddJ p H' v:=⟨h.1.keep b,h.2.1.but b,h.2.2⟩
def BadJ (p:Addr) (H:Hp) (ss:List Str) (v:V):Prop:=qfV p H ss v∧Sn p H v 400 5
theorem BadJ.but {p:Addr} {H H':Hp} {ss:List Str} {v:V} (h:BadJ p H ss v) (b:But p H H'):BadJ p H' ss v:=by
 refine ⟨⟨h.1.1.keep b,?_⟩,h.2.but b⟩
 rcases h.1.2 with ⟨a,xs,rfl,e,hx,hl,hu⟩ | hno
 ·have ha:a≠p:=by cases h.1.1 with | lst _ ne _ _=>exact ne | tup _ ne _ _=>exact ne | dct _ ne=>exact ne | flat f _=>cases f
  exact .inl ⟨a,xs,rfl,b _ _ ha e,fun y hy=>(hx y hy).keep b,hl,hu⟩
 ·refine .inr fun a xs e e'=>?_
  subst e
  cases h.1.1 with
  | lst e2 ne _ _=>exact hno a _ rfl e2
  | tup e2 ne _ _=>rw [b _ _ ne e2] at e';cases e'
  | dct e2 ne=>rw [b _ _ ne e2] at e';cases e'
  | flat f _=>cases f
theorem qaF {α β:Type} {f:α→β}:∀ {l:List α},(l.map f).Nodup→l.Nodup
 | [],_=>.nil
 | x::r,h=>by
  obtain ⟨h1,h2⟩:=List.nodup_cons.mp (show (f x::r.map f).Nodup from h)
  exact List.nodup_cons.mpr ⟨fun z=>h1 (List.mem_map.mpr ⟨x,z,rfl⟩),qaF h2⟩
theorem zw {v:V} (h:zF v=false):∀ ss,NOk ss→qw ss v=false:=fun ss _=>by unfold qw;rw [if_neg (by rw [h];decide)]
def qfK:Sp:=fun vs H Q _=>∃ (p n b:Addr) (ss:List Str) (gs:List Nat),vs=[.ref p,.ref n,.ref b]∧Pu H p∧n≠p∧b≠p∧H n=some (.lst (ss.map V.str))∧NOk ss∧H b=some (.lst (nmL ss gs))∧gs.Nodup∧(∀ k∈gs,k < ss.length)∧∀ v H',But p H H'→Pu H' p→BadJ p H' ss v→Q v H'
section
variable {P:Program} {w:World} {K:W.Frag} {mg:Str→Option Value} {base:Heap} {cc:Nat→Addr} {cw:Addr}
theorem qeP {p b:Addr} {ss:List Str} {gs:List Nat} {t:Nat} {x:V} {J:Hp} (hO:NOk ss) (hnd:gs.Nodup) (hlt:∀ k∈gs,k < ss.length) (hB:Pu J p) (hb:J b=some (.lst (nmL ss gs)))
  (hx:Th p J 2 x) (sx:Sn p J x 20 3) (hbad:(∃ y∈nmL ss (gs.take t)++[x]++nmL ss (gs.drop t),qw ss y=false)∨¬ ((nmL ss (gs.take t)++[x]++nmL ss (gs.drop t)).map qG).Nodup)
  : ∀ d,J d=none→BadJ p (upd J d (.lst (nmL ss (gs.take t)++[x]++nmL ss (gs.drop t)))) ss (.ref d):=by
 intro d hd
 have hdp:=hB.apart hd
 have bt:But p J (upd J d (.lst (nmL ss (gs.take t)++[x]++nmL ss (gs.drop t)))):=But.new7 (fun c o _ e=>e) hd
 have l1:=qbA hnd hlt
 have l2:=hO.few
 have ht:∀ k∈gs.take t,k < ss.length:=fun k hk=>hlt k (List.mem_of_mem_take hk)
 have hdr:∀ k∈gs.drop t,k < ss.length:=fun k hk=>hlt k (List.mem_of_mem_drop hk)
 have e1:(gs.take t).length≤14:=by rw [List.length_take];omega
 have e2:(gs.drop t).length≤14:=by rw [List.length_drop];omega
 refine ⟨qeb hdp qb (fun y hy=>?_) ?_ hbad,?_⟩
 ·rcases List.mem_append.mp hy with hy | hy
  ·rcases List.mem_append.mp hy with hy | hy
   ·exact qea hO ht y hy
   ·rw [List.mem_singleton.mp hy];exact hx.keep bt
  ·exact qea hO hdr y hy
 ·simp only [List.length_append,List.length_map,List.length_cons,List.length_nil];omega
 ·obtain ⟨dx,d1,d2⟩:=sx.but bt
  refine ⟨_,.lst (xs:=nmL ss (gs.take t)++[x]++nmL ss (gs.drop t)) (by rw [zH hdp];exact qb) (((qar _).app (.cons d1 .nil)).app (qar _)),?_⟩
  exact ((((zI hO 3 ht).app (.cons d2 .nil)).app (zI hO 3 hdr)).list).mono (by omega) (by omega)
theorem ok_bdJ {f:Addr} {fd:FuncData} (F:Fun K "_law_bad" "_law_bad" qaC f fd) (T:Txt K mg cc cw) (D_l_take:DefOk P w K mg base CX0 1 "_law_take" ["_law_purse_here", "_law_many_here"] qcE):FnOk P w K mg base CX0 2 f fd ["_law_purse_here", "_law_names_here", "_law_bar"] qfK:=by
  refine F.ok sc_l_bad (fun vs H Q E h=>?_) fun cdv A outer s H vs Q E hr h=>?_
  · obtain ⟨p,n,b,ss,gs,rfl,_⟩:=h;rfl
  · obtain ⟨p,n,b,ss,gs,rfl,hB,hnp,hbp,hn,hO,hb,hnd,hlt,q⟩:=h
    have hu:=zX hr
    have l1:=qbA hnd hlt
    have l2:=hO.few
    obtain ⟨TC4,hTC4⟩:∃ t:TS,t=fun D σ H'=>(∀ u H',Q u H'→D.rt u H')∧∃ (t way:Nat) (o:V),σ=[some (.ref p),some (.ref n),some (.ref b),some (.int (t:Int)),some o,some (.int (way:Int))]∧But p H H'∧Pu H' p∧OddJ p H' o:=⟨_,rfl⟩
    obtain ⟨TC3,hTC3⟩:∃ t:TS,t=TC4:=⟨_,rfl⟩
    have cu:∀ t:Nat,qcq (nmL ss gs) none (some (t:Int))=nmL ss (gs.take t)∧qcq (nmL ss gs) (some (t:Int)) none=nmL ss (gs.drop t)∧(nmL ss (gs.take t)).length≤14∧(nmL ss (gs.drop t)).length≤14:=fun t =>
      ⟨by rw [qa6];exact (List.map_take ..).symm,by rw [qb0];exact (List.map_drop ..).symm,by rw [List.length_map,List.length_take];omega,by rw [List.length_map,List.length_drop];omega⟩
    refine ⟨_,(qd (qo (i:=3) sc_l_bad.nd rfl (Or.inl rfl) (qu D_l_take (hmR hr) qC (qa (pv 0) (qa (qp (jU (K:=K) rfl) (qk (jT (K:=K) rfl) rfl T.b_len boot_len (qa (pv 2) qc)) qg) qc))))
  (qd (qo (i:=4) sc_l_bad.nd rfl (Or.inl rfl) (qD (qE (K:=K) rfl hu) (qK (qa qdu (qa qg (qa zA (qa jJ (qa jJ (qa (qK (qa jJ qc)) (qa (zh (qa jJ qc)) (qa qg qc))))))))) (qu D_l_take (hmR hr) qC (qa (pv 0) (qa qg qc))) (fun _ _=>rfl)))
  (qd (qo (i:=5) sc_l_bad.nd rfl (Or.inl rfl) (qu D_l_take (hmR hr) qC (qa (pv 0) (qa qg qc))))
  (qaA TC3 (qd (jf (PW.pt (qbE (qt (za (K:=K) rfl hu) (pv 5) qg (qB _)) (qck (qt (qbZ (K:=K) rfl hu) (pv 2) (qK qc) (qB _))))) (qf (qq (qp (jU (K:=K) rfl) (qp (jU (K:=K) rfl) (jG (qec (K:=K) rfl) (pv 2) ze (j1 (pv 3))) (qK (qa (qD (qE (K:=K) rfl hu) (pv 2) (qu D_l_take (hmR hr) qC (qa (pv 0) (qa (qk (jT (K:=K) rfl) rfl T.b_len boot_len (qa (pv 2) qc)) qc))) (fun _ _=>rfl)) qc))) (jG (qec (K:=K) rfl) (pv 2) (j1 (pv 3)) ze)))) qv)
  (qaA TC4 (qd (jf (qt qdz (pv 5) qg (qB _)) (qf (qq (qp (jU (K:=K) rfl) (qp (jU (K:=K) rfl) (jG (qec (K:=K) rfl) (pv 2) ze (j1 (pv 3))) (qK (qa (pv 4) qc))) (jG (qec (K:=K) rfl) (pv 2) (j1 (pv 3)) ze)))) qv)
  (qf (qq (qD (qE (K:=K) rfl hu) (qK (qa (zC (k_tupleU (K:=K) rfl) rfl T.b_tuple boot_tuple (qa (pv 2) qc)) (qa qdu (qa jJ (qa qg (qa qaL (qa (qK (qa (pv 2) qc)) (qa zA (qa (qK (qa (pv 1) qc)) qc))))))))) (qu D_l_take (hmR hr) qC (qa (pv 0) (qa qg qc))) (fun _ _=>rfl))))) ?cut4)) ?cut3)))),?_⟩
    case cut4 =>
      intro D σ H1 h
      rw [hTC4] at h
      obtain ⟨hD,t,way,o,rfl,b1,hB1,ho⟩:=h
      have hb1:=b1 _ _ hbp hb
      have hn1:=b1 _ _ hnp hn
      obtain ⟨et,ed,lt,ld⟩:=cu t
      walk_at "vc"
      refine jk (fun hw=>?_) (fun hw=>?_)
      · walk_at "vc"
        refine .inl ⟨b,_,rfl,.of hb1,fun g1 hg1=>?_⟩
        rw [et]
        have s2:=qY (L2.Same.refl H1) (o:=.lst (nmL ss (gs.take t))) hg1
        have e2:upd H1 g1 (.lst (nmL ss (gs.take t))) g1=some (.lst (nmL ss (gs.take t))):=qb
        have B2:Pu (upd H1 g1 (.lst (nmL ss (gs.take t)))) p:=hB1.new hg1
        generalize upd H1 g1 (.lst (nmL ss (gs.take t)))=H2 at s2 e2 B2
        walk_at "vc"
        refine ⟨by show 1≤sizeLine;decide,fun g2 hg2=>?_⟩
        have s3:=qY (L2.Same.refl H2) (o:=.lst [o]) hg2
        have e3:upd H2 g2 (.lst [o]) g2=some (.lst [o]):=qb
        have B3:Pu (upd H2 g2 (.lst [o])) p:=B2.new hg2
        generalize upd H2 g2 (.lst [o])=H3 at s3 e3 B3
        refine .inl ⟨g1,g2,_,_,rfl,rfl,s3 _ _ e2,e3,Nat.le_of_lt (qh (by simp only [List.length_cons,List.length_nil];omega)),fun g3 hg3=>?_⟩
        have s4:=qY (L2.Same.refl H3) (o:=.lst (nmL ss (gs.take t)++[o])) hg3
        have e4:upd H3 g3 (.lst (nmL ss (gs.take t)++[o])) g3=some (.lst (nmL ss (gs.take t)++[o])):=qb
        have B4:Pu (upd H3 g3 (.lst (nmL ss (gs.take t)++[o]))) p:=B3.new hg3
        generalize upd H3 g3 (.lst (nmL ss (gs.take t)++[o]))=H4 at s4 e4 B4
        have s14:=(s2.trans s3).trans s4
        walk_at "vc"
        refine .inl ⟨b,_,rfl,.of (s14 _ _ hb1),fun g4 hg4=>?_⟩
        rw [ed]
        have s5:=qY (L2.Same.refl H4) (o:=.lst (nmL ss (gs.drop t))) hg4
        have e5:upd H4 g4 (.lst (nmL ss (gs.drop t))) g4=some (.lst (nmL ss (gs.drop t))):=qb
        have B5:Pu (upd H4 g4 (.lst (nmL ss (gs.drop t)))) p:=B4.new hg4
        generalize upd H4 g4 (.lst (nmL ss (gs.drop t)))=H5 at s5 e5 B5
        have s15:=s14.trans s5
        have b15:But p H1 H5:=fun c o _ e=>s15 c o e
        refine .inl ⟨g3,g4,_,_,rfl,rfl,s5 _ _ e4,e5,Nat.le_of_lt (qh (by simp only [List.length_append,List.length_cons,List.length_nil];omega)),fun g5 hg5=>?_⟩
        have s6:=qY s15 (o:=.lst (nmL ss (gs.take t)++[o]++nmL ss (gs.drop t))) hg5
        have ho5:=ho.but b15
        exact hD _ _ (q _ _ (b1.trans7 fun c o _ e=>s6 c o e) (B5.new hg5) (qeP hO hnd hlt B5 (s15 _ _ hb1) ho5.1 ho5.2.1 (.inl ⟨o,by simp,ho.2.2 ss hO⟩) g5 hg5))
      · walk_at "vc"
        refine ⟨b,_,rfl,.inl ⟨.of hb1,fun tt htt=>?_⟩⟩
        have s2:=qY (L2.Same.refl H1) (o:=.tup (nmL ss gs)) htt
        have e2:upd H1 tt (.tup (nmL ss gs)) tt=some (.tup (nmL ss gs)):=qb
        have B2:Pu (upd H1 tt (.tup (nmL ss gs))) p:=hB1.new htt
        have p2:=hB1.apart htt
        generalize upd H1 tt (.tup (nmL ss gs))=H2 at s2 e2 B2
        walk_at "vc"
        refine fun dd hdd=>?_
        have s3:=qY (L2.Same.refl H2) (o:=.dK []) hdd
        have e3:upd H2 dd (.dK []) dd=some (.dK []):=qb
        have B3:Pu (upd H2 dd (.dK [])) p:=B2.new hdd
        have p3:=B2.apart hdd
        generalize upd H2 dd (.dK [])=H3 at s3 e3 B3
        walk_at "vc"
        refine ⟨by show 1≤sizeLine;decide,fun lb hlb=>?_⟩
        have s4:=qY (L2.Same.refl H3) (o:=.lst [.ref b]) hlb
        have e4:upd H3 lb (.lst [.ref b]) lb=some (.lst [.ref b]):=qb
        have B4:Pu (upd H3 lb (.lst [.ref b])) p:=B3.new hlb
        have p4:=B3.apart hlb
        generalize upd H3 lb (.lst [.ref b])=H4 at s4 e4 B4
        walk_at "vc"
        refine ⟨by show 1≤sizeLine;decide,fun ln hln=>?_⟩
        have s5:=qY (L2.Same.refl H4) (o:=.lst [.ref n]) hln
        have e5:upd H4 ln (.lst [.ref n]) ln=some (.lst [.ref n]):=qb
        have B5:Pu (upd H4 ln (.lst [.ref n])) p:=B4.new hln
        have p5:=B4.apart hln
        generalize upd H4 ln (.lst [.ref n])=H5 at s5 e5 B5
        walk_at "vc"
        refine ⟨by show 8≤sizeLine;decide,fun ll hll=>?_⟩
        have e25:=s5 _ _ (s4 _ _ (s3 _ _ e2))
        have e35:=s5 _ _ (s4 _ _ e3)
        have e45:=s5 _ _ e4
        have s15:=((s2.trans s3).trans s4).trans s5
        have hb5:=s15 _ _ hb1
        have hn5:=s15 _ _ hn1
        have enm:ss.map V.str=nmL ss (List.range ss.length):=by
          refine List.ext_getElem (by simp) fun i h1 h2=>?_
          rw [List.getElem_map,List.getElem_map,List.getElem_range]
          have h1':i < ss.length:=by simpa using h1
          have:=qaJ h1'
          rw [List.getElem?_eq_getElem h1'] at this
          exact congrArg V.str (Option.some.inj this)
        have hran:∀ k∈List.range ss.length,k < ss.length:=fun k hk=>List.mem_range.mp hk
        have noL:∀ {v:V},zx v=true→∀ (a:Addr) (xs:List V),v=.ref a→H5 a≠some (.lst xs):=fun hf a xs e=>by rw [e] at hf;cases hf
        have inL:∀ (l g:Addr) (ks:List Nat),l≠p→g≠p→H5 l=some (.lst [.ref g])→H5 g=some (.lst (nmL ss ks))→(∀ k∈ks,k < ss.length)→ks.length≤14→BadJ p H5 ss (.ref l):=fun l g ks hl hg el eg hk hkl =>
          ⟨qeb hl el (fun y hy=>by rw [List.mem_singleton.mp hy];exact Th.mono (Th.lst eg hg (fun z hz=>by obtain ⟨j,hj,rfl⟩:=List.mem_map.mp hz;exact .flat rfl fun u e=>(by cases e;have:=jO (hO.nm _ (qbo (hk j hj)));omega)) (by rw [List.length_map];omega))) (by show 1≤1000;decide) (.inl ⟨_,List.mem_singleton.mpr rfl,zw rfl ss hO⟩),
           _,.lst (by rw [zH hl];exact el) (.cons (.lst (by rw [zH hg];exact eg) (qar ks)) .nil),((ShwS.cons ((zI hO 1 hk).list) .nil).list).mono (by omega) (by omega)⟩
        have hW:∀ v∈[V.ref tt,.non,.str "a",.int 5,.ref dd,.ref lb,.bl false,.ref ln],BadJ p H5 ss v:=fun v hv=>by
          simp only [List.mem_cons,List.not_mem_nil,or_false] at hv
          rcases hv with rfl | rfl | rfl | rfl | rfl | rfl | rfl | rfl
          · refine ⟨⟨Th.tup e25 p2 (qea hO hlt) (by rw [List.length_map];omega),.inr fun a xs e e'=>?_⟩,_,.tup (by rw [zH p2];exact e25) (qar gs),((zI hO 1 hlt).tuple).mono (by omega) (by omega)⟩
            cases e;rw [e25] at e';cases e'
          · exact ⟨⟨.flat rfl (fun u e=>by cases e),.inr (noL rfl)⟩,_,.non,Shw.non.mono (by omega) (Nat.le_refl _)⟩
          · exact ⟨⟨.flat rfl (fun u e=>by cases e;decide),.inr (noL rfl)⟩,_,.str _,(Shw.str (by decide)).mono (by decide) (Nat.le_refl _)⟩
          · exact ⟨⟨.flat rfl (fun u e=>by cases e),.inr (noL rfl)⟩,_,.int _,(Shw.int (by decide) (by decide)).mono (by omega) (Nat.le_refl _)⟩
          · refine ⟨⟨.dct e35 p3,.inr fun a xs e e'=>?_⟩,_,.dnil (by rw [zH p3];exact e35),(Shw.dnil (m:=0)).mono (by omega) (by omega)⟩
            cases e;rw [e35] at e';cases e'
          · exact inL lb b gs p4 hbp e45 hb5 hlt (by omega)
          · exact ⟨⟨.flat rfl (fun u e=>by cases e),.inr (noL rfl)⟩,_,.bl _,Shw.bl.mono (by omega) (Nat.le_refl _)⟩
          · exact inL ln n _ p5 hnp e5 (by rw [← enm];exact hn5) hran (by rw [List.length_range];omega)
        have s6:=qY (L2.Same.refl H5) (o:=.lst [V.ref tt,.non,.str "a",.int 5,.ref dd,.ref lb,.bl false,.ref ln]) hll
        have e6:upd H5 ll (.lst [V.ref tt,.non,.str "a",.int 5,.ref dd,.ref lb,.bl false,.ref ln]) ll=some (.lst [V.ref tt,.non,.str "a",.int 5,.ref dd,.ref lb,.bl false,.ref ln]):=qb
        have B6:Pu (upd H5 ll (.lst [V.ref tt,.non,.str "a",.int 5,.ref dd,.ref lb,.bl false,.ref ln])) p:=B5.new hll
        have p6:=B5.apart hll
        have l8:[V.ref tt,.non,.str "a",.int 5,.ref dd,.ref lb,.bl false,.ref ln].length=8:=rfl
        generalize [V.ref tt,.non,.str "a",.int 5,.ref dd,.ref lb,.bl false,.ref ln]=xs at hW s6 e6 B6 l8
        generalize upd H5 ll (.lst xs)=H6 at s6 e6 B6
        walk_at "vc"
        refine ⟨p,8,rfl,B6,by decide,by decide,fun d H7 hd b7 B7=>?_⟩
        obtain ⟨v,hv⟩:∃ v,xs[d]?=some v:=⟨_,List.getElem?_eq_getElem (by omega)⟩
        have b57:But p H5 H7:=fun c o hc e=>b7 c o hc (s6 c o e)
        refine .inl (zZ (b7 _ _ p6 e6) (v:=v) (qH hv) ?_)
        exact hD _ _ (q _ _ (b1.trans7 fun c o hc e=>b57 c o hc (s15 c o e)) B7 ((hW v (List.mem_of_getElem? hv)).but b57))
    case cut3 =>
      intro D σ H1 h
      rw [hTC3,hTC4] at h
      obtain ⟨hD,t,way,o,rfl,b1,hB1,ho⟩:=h
      have hb1:=b1 _ _ hbp hb
      have hn1:=b1 _ _ hnp hn
      obtain ⟨et,ed,lt,ld⟩:=cu t
      have rest:∀ J,L2.Same H1 J→Pu J p→TC4 D [some (.ref p),some (.ref n),some (.ref b),some (.int (t:Int)),some o,some (.int (way:Int))] J:=fun J sJ BJ=>by
        rw [hTC4]
        exact ⟨hD,t,way,o,rfl,b1.trans7 fun c o _ e=>sJ c o e,BJ,ho.but fun c o _ e=>sJ c o e⟩
      walk_at "vc"
      refine qaI ?_
      refine ⟨_,rfl,jk (fun hw=>?_) (fun hw=>?_)⟩
      · walk_at "vc"
        refine ⟨by show 0≤sizeLine;decide,fun z0 hz0=>?_⟩
        have s2:=qY (L2.Same.refl H1) (o:=.lst []) hz0
        have e2:upd H1 z0 (.lst []) z0=some (.lst []):=qb
        have B2:Pu (upd H1 z0 (.lst [])) p:=hB1.new hz0
        generalize upd H1 z0 (.lst [])=H2 at s2 e2 B2
        have hb2:=s2 _ _ hb1
        by_cases hg:gs=[]
        · subst hg
          refine .inr (.inl ⟨b,z0,true,1,rfl,rfl,by decide,?_,?_⟩)
          · exact qbz (ks:=[]) hb2 e2
          · walk_at "vc"
            exact rest H2 s2 B2
        · refine .inr (.inl ⟨b,z0,false,1,rfl,rfl,by decide,.lstL (.of hb2) (.of e2) (by rw [List.length_map];exact fun z=>hg (List.eq_nil_of_length_eq_zero z)),?_⟩)
          have g0:0 < gs.length:=List.length_pos_iff.mpr hg
          walk_at "vc"
          refine qcg ?_
          walk_at "vc"
          refine .inl ⟨b,_,rfl,.of hb2,fun g1 hg1=>?_⟩
          rw [et]
          have s3:=qY s2 (o:=.lst (nmL ss (gs.take t))) hg1
          have e3:upd H2 g1 (.lst (nmL ss (gs.take t))) g1=some (.lst (nmL ss (gs.take t))):=qb
          have B3:Pu (upd H2 g1 (.lst (nmL ss (gs.take t)))) p:=B2.new hg1
          have p3:=B2.apart hg1
          generalize upd H2 g1 (.lst (nmL ss (gs.take t)))=H3 at s3 e3 B3
          have hb3:=s3 _ _ hb1
          walk_at "vc"
          refine qau hb3 ?_
          rw [List.length_map]
          walk_at "vc"
          refine ⟨p,gs.length,rfl,B3,g0,by omega,fun d H4 hd b4 B4=>?_⟩
          have e4:=b4 _ _ p3 e3
          have hb4:=b4 _ _ hbp hb3
          have b14:But p H1 H4:=fun c o hc e=>b4 c o hc (s3 c o e)
          obtain ⟨k,hk⟩:∃ k,gs[d]?=some k:=⟨_,List.getElem?_eq_getElem hd⟩
          have hkl:=hlt k (List.mem_of_getElem? hk)
          refine .inl (zZ hb4 (v:=.str (tn ss k)) (qH (by rw [List.getElem?_map,hk];rfl)) ?_)
          walk_at "vc"
          refine ⟨by show 1≤sizeLine;decide,fun g2 hg2=>?_⟩
          have s5:=qY (L2.Same.refl H4) (o:=.lst [.str (tn ss k)]) hg2
          have e5:upd H4 g2 (.lst [.str (tn ss k)]) g2=some (.lst [.str (tn ss k)]):=qb
          have B5:Pu (upd H4 g2 (.lst [.str (tn ss k)])) p:=B4.new hg2
          generalize upd H4 g2 (.lst [.str (tn ss k)])=H5 at s5 e5 B5
          refine .inl ⟨g1,g2,_,_,rfl,rfl,s5 _ _ e4,e5,Nat.le_of_lt (qh (by simp only [List.length_cons,List.length_nil];omega)),fun g3 hg3=>?_⟩
          have s6:=qY s5 (o:=.lst (nmL ss (gs.take t)++[.str (tn ss k)])) hg3
          have e6:upd H5 g3 (.lst (nmL ss (gs.take t)++[.str (tn ss k)])) g3=some (.lst (nmL ss (gs.take t)++[.str (tn ss k)])):=qb
          have B6:Pu (upd H5 g3 (.lst (nmL ss (gs.take t)++[.str (tn ss k)]))) p:=B5.new hg3
          generalize upd H5 g3 (.lst (nmL ss (gs.take t)++[.str (tn ss k)]))=H6 at s6 e6 B6
          walk_at "vc"
          refine .inl ⟨b,_,rfl,.of (s6 _ _ hb4),fun g4 hg4=>?_⟩
          rw [ed]
          have s7:=qY (L2.Same.refl H6) (o:=.lst (nmL ss (gs.drop t))) hg4
          have e7:upd H6 g4 (.lst (nmL ss (gs.drop t))) g4=some (.lst (nmL ss (gs.drop t))):=qb
          have B7:Pu (upd H6 g4 (.lst (nmL ss (gs.drop t)))) p:=B6.new hg4
          generalize upd H6 g4 (.lst (nmL ss (gs.drop t)))=H7 at s7 e7 B7
          have s47:=s6.trans s7
          have b17:But p H1 H7:=fun c o hc e=>s47 c o (b14 c o hc e)
          refine .inl ⟨g3,g4,_,_,rfl,rfl,s7 _ _ e6,e7,Nat.le_of_lt (qh (by simp only [List.length_append,List.length_cons,List.length_nil];omega)),fun g5 hg5=>?_⟩
          have hkn:=hO.nm _ (qbo hkl)
          have hsl:=jO hkn
          refine hD _ _ (q _ _ ((b1.trans7 b17).new7 hg5) (B7.new hg5) (qeP hO hnd hlt B7 (s47 _ _ hb4) (.flat rfl fun u e=>by cases e;omega) ⟨_,.str _,(Shw.str (qbp hkn)).mono (by omega) (Nat.le_refl _)⟩ (.inr fun hno=>?_) g5 hg5))
          rw [List.map_append,List.map_append,qcJ,qcJ] at hno
          have hno2:((gs.take t++[k]++gs.drop t).map (tn ss)).Nodup:=by rw [List.map_append,List.map_append];exact hno
          have hno3:(gs.take t++[k]++gs.drop t).Nodup:=qaF hno2
          have hkm:k∈gs:=List.mem_of_getElem? hk
          rw [← List.take_append_drop t gs] at hkm
          obtain ⟨h1,h2,h3⟩:=List.nodup_append.mp hno3
          rcases List.mem_append.mp hkm with z | z
          · exact (List.nodup_append.mp h1).2.2 k z k (by simp) rfl
          · exact h3 k (by simp) k z rfl
      · walk_at "vc"
        refine jk (fun h=>by cases h) fun _=>?_
        walk_at "vc"
        exact rest H1 (L2.Same.refl H1) hB1
    walk_at "vc"
    refine qau hb ?_
    rw [List.length_map]
    walk_at "vc"
    refine ⟨p,gs.length + 1,rfl,hB,by omega,by omega,fun t H1 ht b1 B1=>?_⟩
    walk_at "vc"
    refine ⟨by show 1≤sizeLine;decide,fun la hla=>?_⟩
    have s2:=qY (L2.Same.refl H1) (o:=.lst [.str "a"]) hla
    have e2:upd H1 la (.lst [.str "a"]) la=some (.lst [.str "a"]):=qb
    have B2:Pu (upd H1 la (.lst [.str "a"])) p:=B1.new hla
    have p2:=B1.apart hla
    generalize upd H1 la (.lst [.str "a"])=H2 at s2 e2 B2
    walk_at "vc"
    refine ⟨by show 1≤sizeLine;decide,fun ta hta=>?_⟩
    have s3:=qY (L2.Same.refl H2) (o:=.tup [.str "a"]) hta
    have e3:upd H2 ta (.tup [.str "a"]) ta=some (.tup [.str "a"]):=qb
    have B3:Pu (upd H2 ta (.tup [.str "a"])) p:=B2.new hta
    have p3:=B2.apart hta
    generalize upd H2 ta (.tup [.str "a"])=H3 at s3 e3 B3
    walk_at "vc"
    refine ⟨by show 8≤sizeLine;decide,fun ll hll=>?_⟩
    have e23:=s3 _ _ e2
    have tha:∀ y∈[V.str "a"],Th p H3 1 y:=fun y hy=>by rw [List.mem_singleton.mp hy];exact .flat rfl (fun u e=>by cases e;decide)
    have sha:ShwS [PyData.str "a"] 2 1:=(ShwS.cons (Shw.str (by decide)) .nil).mono (by decide) (Nat.le_refl _)
    have hW:∀ v∈[V.non,.int 3,.bl true,.str "",.str "zzzzzzz",.ref la,.ref ta,.int 0],OddJ p H3 v:=fun v hv=>by
      simp only [List.mem_cons,List.not_mem_nil,or_false] at hv
      rcases hv with rfl | rfl | rfl | rfl | rfl | rfl | rfl | rfl
      · exact ⟨.flat rfl (fun u e=>by cases e),⟨_,.non,Shw.non.mono (by omega) (Nat.le_refl _)⟩,zw rfl⟩
      · exact ⟨.flat rfl (fun u e=>by cases e),⟨_,.int _,(Shw.int (by decide) (by decide)).mono (by omega) (Nat.le_refl _)⟩,zw rfl⟩
      · exact ⟨.flat rfl (fun u e=>by cases e),⟨_,.bl _,Shw.bl.mono (by omega) (Nat.le_refl _)⟩,zw rfl⟩
      · exact ⟨.flat rfl (fun u e=>by cases e;decide),⟨_,.str _,(Shw.str (by decide)).mono (by decide) (Nat.le_refl _)⟩,zw (by decide +kernel)⟩
      · exact ⟨.flat rfl (fun u e=>by cases e;decide),⟨_,.str _,(Shw.str (by decide)).mono (by decide) (Nat.le_refl _)⟩,zw (by decide +kernel)⟩
      · exact ⟨Th.lst e23 p2 tha (by decide),⟨_,.lst (by rw [zH p2];exact e23) (.cons (.str _) .nil),sha.list.mono (by omega) (by omega)⟩,zw rfl⟩
      · exact ⟨Th.tup e3 p3 tha (by decide),⟨_,.tup (by rw [zH p3];exact e3) (.cons (.str _) .nil),sha.tuple.mono (by omega) (by omega)⟩,zw rfl⟩
      · exact ⟨.flat rfl (fun u e=>by cases e),⟨_,.int _,(Shw.int (by decide) (by decide)).mono (by omega) (Nat.le_refl _)⟩,zw rfl⟩
    have s4:=qY (L2.Same.refl H3) (o:=.lst [V.non,.int 3,.bl true,.str "",.str "zzzzzzz",.ref la,.ref ta,.int 0]) hll
    have e4:upd H3 ll (.lst [V.non,.int 3,.bl true,.str "",.str "zzzzzzz",.ref la,.ref ta,.int 0]) ll=some (.lst [V.non,.int 3,.bl true,.str "",.str "zzzzzzz",.ref la,.ref ta,.int 0]):=qb
    have B4:Pu (upd H3 ll (.lst [V.non,.int 3,.bl true,.str "",.str "zzzzzzz",.ref la,.ref ta,.int 0])) p:=B3.new hll
    have p4:=B3.apart hll
    have l8:[V.non,.int 3,.bl true,.str "",.str "zzzzzzz",.ref la,.ref ta,.int 0].length=8:=rfl
    generalize [V.non,.int 3,.bl true,.str "",.str "zzzzzzz",.ref la,.ref ta,.int 0]=xs at hW s4 e4 B4 l8
    generalize upd H3 ll (.lst xs)=H4 at s4 e4 B4
    walk_at "vc"
    refine ⟨p,8,rfl,B4,by decide,by decide,fun d H5 hd b5 B5=>?_⟩
    obtain ⟨o,ho⟩:∃ o,xs[d]?=some o:=⟨_,List.getElem?_eq_getElem (by omega)⟩
    have b35:But p H3 H5:=fun c o hc e=>b5 c o hc (s4 c o e)
    have ho5:=(hW o (List.mem_of_getElem? ho)).but b35
    refine .inl (zZ (b5 _ _ p4 e4) (v:=o) (qH ho) ?_)
    walk_at "vc"
    refine ⟨p,4,rfl,B5,by decide,by decide,fun way H6 hway b6 B6=>?_⟩
    walk_at "vc"
    rw [hTC3,hTC4]
    have b13:But p H1 H3:=fun c o _ e=>s3 c o (s2 c o e)
    exact ⟨fun u H' h=>h,t,way,o,rfl,((b1.trans7 b13).trans7 b35).trans7 b6,B6,ho5.but b6⟩
end
abbrev jE:Stmt:=top 42
theorem sc_l_refused:FnScope ["_law_way", "_law_web", "_law_thing", "_law_found", "e"] ["_law_way", "_law_web", "_law_thing"] (qe jE):=⟨rfl,rfl,rfl,by decide +kernel,rfl,by decide +kernel,by decide +kernel⟩
def qfL (cw:Addr):Sp:=fun vs H Q _=>∃ (p x:Addr) (ss:List Str) (ns:List Nat) (v:V) (way:Nat),vs=[.int (way:Int),.ref x,v]∧WebAt cw H x ss ns∧BadJ p H ss v∧∀ H',L2.Same H H'→Q (.bl true) H'
section
variable {P:Program} {w:World} {K:W.Frag} {mg:Str→Option Value} {base:Heap} {cc:Nat→Addr} {cw:Addr}
theorem ok_rfJ {f:Addr} {fd:FuncData} (F:Fun K "_law_refused" "_law_refused" jE f fd) (T:Txt K mg cc cw) (mr6:W.mroIn K (cc 6) (.ref (cc 6))=some true) (D_l_asked:DefOk P w K mg base (CX1 P w) 12 "_law_asked" ["_law_way", "_law_web", "_law_bar"] (qgG cc cw)):FnOk P w K mg base CX0 13 f fd ["_law_way", "_law_web", "_law_thing"] (qfL cw):=by
 refine F.ok sc_l_refused (fun vs H Q E h=>?_) fun cdv A outer s H vs Q E hr h=>?_
 ·obtain ⟨p,x,ss,ns,v,way,rfl,_⟩:=h;rfl
 ·obtain ⟨p,x,ss,ns,v,way,rfl,hW,⟨hbad,hsn⟩,q⟩:=h
  have hu:=zX hr
  obtain ⟨d,hd,hw⟩:=hsn
  have hd:=hd.same (outH_sub p H)
  refine ⟨_,(qd (qo (i:=3) sc_l_refused.nd rfl (Or.inl rfl) qdu)
 (qd (ps_try rfl rfl rfl qv)
 (qf (qq (qaX (za (K:=K) rfl hu) (qk (qdX (K:=K) rfl hu hr.gd T.smod) rfl T.b_repr boot_repr (qa (pv 3) qc)) (qk (qdX (K:=K) rfl hu hr.gd T.smod) rfl T.b_repr boot_repr (qa (qK (qa zA (qa zA (qa (pv 2) qc)))) qc)) (qB _)))))),?_⟩
  walk_at "vc"
  refine ⟨fun σ c dxo H'=>∃ dy,c=.ref (cc 6)∧dxo=some dy∧L2.Same H H'∧H' dy=some (.xd [(qaE 6,v)])∧σ=[some (.int (way:Int)),some (.ref x),some v,some .non,none],_,fun pn xe qZ=>(qf (qR (zD D_l_asked (hmR hr) qZ (qa (pv 0) (qa (pv 1) (qa (pv 2) qc)))))),?_,fun a C dx' σ' H' hE ha'=>?_⟩
  ·walk_at "vc"
   exact ⟨p,x,ss,ns,v,way,rfl,hW,hbad,fun dy H' s' hy=>⟨dy,rfl,rfl,s',hy,rfl⟩⟩
  ·obtain ⟨dy,hc',rfl,s1,hy,rfl⟩:=hE
   cases hc'
   refine ⟨_,(ph_as (K:=K) rfl sc_l_refused.nd (i:=4) rfl rfl rfl T.m_NoBar (qf (qo (i:=3) sc_l_refused.nd rfl (Or.inl rfl) (qK (qa (qk (qbt (K:=K) rfl) rfl T.b_isinstance boot_isinstance (qa (pv 4) (qa (zh (qa (qcj (v:=.ref (cc 5)) rfl T.m_NoPairs rfl) (qa (qcj (v:=.ref (cc 2)) rfl T.m_NoPlace rfl) qc))) qc))) (qa (qk (qbl (K:=K) rfl) rfl T.b_isinstance boot_isinstance (qa (pv 4) (qa (jQ (v:=.ty "ValueError") rfl T.b_ValueError zE rfl) qc))) (qa (j3 (K:=K) rfl (pv 4) rfl) qc)))))) (ph_no (K:=K) rfl rfl T.m_OnceError (qf (qo (i:=3) sc_l_refused.nd rfl (Or.inl rfl) (qK qc))) ph_nil)),?_⟩
   refine ⟨true,mr6,T.xat 6 (by decide),T.xat 6 (by decide),qcg ?_⟩
   walk_at "vc"
   refine ⟨by show 2≤sizeLine;decide,fun tp htp=>?_⟩
   have s2:=qY s1 (o:=.tup [.ref (cc 5),.ref (cc 2)]) htp
   have s12:=qY (L2.Same.refl H') (o:=.tup [.ref (cc 5),.ref (cc 2)]) htp
   have e2:upd H' tp (.tup [.ref (cc 5),.ref (cc 2)]) tp=some (.tup [.ref (cc 5),.ref (cc 2)]):=qb
   have ha2:IsX (upd H' tp (.tup [.ref (cc 5),.ref (cc 2)])) a (cc 6) (some dy):=.inr (s12 _ _ ha')
   generalize upd H' tp (.tup [.ref (cc 5),.ref (cc 2)])=H2 at s2 s12 e2 ha2
   have hy2:=s12 _ _ hy
   have tx:TyX K H2 (.ref a) (.ref (cc 6)):=.inr ⟨a,cc 6,some dy,rfl,rfl,ha2,T.xat 6 (by decide),fun d z=>by cases z;exact ⟨_,hy2⟩⟩
   walk_at "vc"
   refine ⟨_,tp,_,.ref (cc 6),[.ref (cc 5),.ref (cc 2)],false,rfl,tx,e2,rfl,?_,?_⟩
   ·have k1:=T.kit 6 5 (by decide) (by decide)
    have k2:=T.kit 6 2 (by decide) (by decide)
    simp only [W.kitAny,k1,k2]
    rfl
   walk_at "vc"
   refine qcw tx rfl (T.kitV 6 (by decide)) ?_
   walk_at "vc"
   refine .inr ⟨a,cc 6,dy,_,v,rfl,ha2,T.xat 6 (by decide),T.na 6 (by decide),hy2,rfl,?_⟩
   walk_at "vc"
   refine ⟨by show 3≤sizeLine;decide,fun l hl=>?_⟩
   have s3:=qY s2 (o:=.lst [.bl false,.bl true,v]) hl
   have e3:upd H2 l (.lst [.bl false,.bl true,v]) l=some (.lst [.bl false,.bl true,v]):=qb
   generalize upd H2 l (.lst [.bl false,.bl true,v])=H3 at s3 e3
   have hs:ShwS [.bool false,.bool true,d] 2000 6:=(ShwS.cons Shw.bl (ShwS.cons Shw.bl (ShwS.cons (hw.mono (Nat.le_refl _) (show 5≤6 by decide)) ShwS.nil))).mono (by omega) (Nat.le_refl _)
   walk_at "vc"
   refine ⟨_,_,rfl,.lst e3 (.cons (.bl _) (.cons (.bl _) (.cons (hd.same s3) .nil))),hs.list.mono (by decide) (by decide),?_⟩
   walk_at "vc"
   refine ⟨by show 3≤sizeLine;decide,fun l2 hl2=>?_⟩
   have s4:=qY s3 (o:=.lst [.bl false,.bl true,v]) hl2
   refine ⟨_,_,rfl,.lst qb (.cons (.bl _) (.cons (.bl _) (.cons (hd.same s4) .nil))),hs.list.mono (by decide) (by decide),?_⟩
   refine .inl (.inl (.inl ⟨rfl,rfl,?_⟩))
   have e1:∀ t:Str,(if false=true then !eqV (V.str t) (V.str t) else eqV (V.str t) (V.str t))=true:=fun t=>by simp [eqV]
   rw [e1]
   exact q _ s4
end
abbrev qaD:Stmt:=top 45
theorem sc_law:FnScope ["_law_script", "_law_cell_here", "_law_purse_here", "_law_many_here", "_law_names_here", "_law_ties_here", "_law_web", "_law_bits_here", "_law_some_here", "_law_gone", "_law_due", "_law_bar", "_law_way"] ["_law_script"] (qe qaD):=⟨rfl,rfl,rfl,by decide +kernel,rfl,by decide +kernel,by decide +kernel⟩
structure LG (ss:List Str) (ns bs:List Nat) (TI:List (Nat×Nat)):Prop where
 o:NOk ss
 t:TJ ss.length TI
 b:BtJ ss.length TI bs
 a:Adj ss ns (TI.map (nmP ss))
 g:WG ss ns (qap ss (TI.map (nmP ss)) ss)
structure LJ (cw p n x bb:Addr) (ss:List Str) (ns bs:List Nat) (J:Hp):Prop where
 pu:Pu J p
 nm:J n=some (.lst (ss.map V.str))
 np:n≠p
 wb:WebP (fun a=>a=p) cw J x ss ns
 bt:J bb=some (.lst (qam bs))
 bp:bb≠p
theorem LJ.but {cw p n x bb:Addr} {ss:List Str} {ns bs:List Nat} {J J':Hp} (h:LJ cw p n x bb ss ns bs J) (b:But p J J') (hp:Pu J' p):LJ cw p n x bb ss ns bs J':=
 ⟨hp,b _ _ h.np h.nm,h.np,h.wb.keep b,b _ _ h.bp h.bt,h.bp⟩
theorem Pu.same {H H':Hp} {p:Addr} (h:Pu H p) (s:L2.Same H H'):Pu H' p:=by
 obtain ⟨a,b,c,e,r⟩:=h
 exact ⟨a,b,c,s _ _ e,r⟩
theorem LJ.same {cw p n x bb:Addr} {ss:List Str} {ns bs:List Nat} {J J':Hp} (h:LJ cw p n x bb ss ns bs J) (s:L2.Same J J'):LJ cw p n x bb ss ns bs J':=h.but (fun c o _ e=>s c o e) (h.pu.same s)
structure BJ (p so g0 g1:Addr) (m:Nat) (gs0 gs1:List Nat) (J:Hp):Prop where
 es:J so=some (.lst [.ref g0,.ref g1])
 sp:so≠p
 e0:J g0=some (.lst (gs0.map iV))
 e1:J g1=some (.lst (gs1.map iV))
 p0:g0≠p
 p1:g1≠p
 n0:gs0.Nodup
 n1:gs1.Nodup
 l0:∀ k∈gs0,k < m
 l1:∀ k∈gs1,k < m
theorem BJ.but {p so g0 g1:Addr} {m:Nat} {gs0 gs1:List Nat} {J J':Hp} (h:BJ p so g0 g1 m gs0 gs1 J) (b:But p J J'):BJ p so g0 g1 m gs0 gs1 J':=
 ⟨b _ _ h.sp h.es,h.sp,b _ _ h.p0 h.e0,b _ _ h.p1 h.e1,h.p0,h.p1,h.n0,h.n1,h.l0,h.l1⟩
theorem BJ.same {p so g0 g1:Addr} {m:Nat} {gs0 gs1:List Nat} {J J':Hp} (h:BJ p so g0 g1 m gs0 gs1 J) (s:L2.Same J J'):BJ p so g0 g1 m gs0 gs1 J':=h.but fun c o _ e=>s c o e
theorem qfM {n:Nat} {TI:List (Nat×Nat)} {bs:List Nat} (h:BtJ n TI bs):(∀ a b,qbd bs a b=true→qbd bs b a=true)∧∀ a b,qbd bs a b=true→b < n:=
 ⟨fun a b z=>(h.2.2 b a).mpr ((h.2.2 a b).mp z).symm,fun a b z=>qdg (h.2.1 a) z⟩
open Classical in
theorem pcs_due {ss:List Str} {ns bs:List Nat} {TI:List (Nat×Nat)} (h:LG ss ns bs TI) {gs:List Nat} (hg:∀ k∈gs,k < ss.length) (ns':List Nat)
  (hb:jN (qX ss (nmL ss gs)) ns' (zT (qap ss (TI.map (nmP ss)) ss) (qX ss (nmL ss gs)))) :
  (qbC ns' (qX ss (nmL ss gs)).length).map (zY (qX ss (nmL ss gs)) ns')=((zG bs (jB gs ss.length).sum ss.length).map (qaB bs (jB gs ss.length).sum ss.length)).map fun c=>c.map (tn ss):=by
 have e:=keep_names h.o.nd hg (qcG gs ss.length).2
 rw [e] at hb ⊢
 have hl:ns'.length=(qy (jB gs ss.length).sum ss.length).length:=by rw [hb.1,List.length_map]
 exact pieces_eq h.o.nd (sub_of h.o h.t h.b h.g.adj h.a hb) hl (fun a=>by rw [hl];have:=hb.2.1 a;rwa [List.length_map] at this) (qfM h.b).2
theorem eqT_ints {K:W.Frag} {H:Hp} {a b:Addr} {ks js:List Nat} (ha:H a=some (.lst (ks.map iV))) (hb:H b=some (.lst (js.map iV))):∃ k,EqT K H 1 a b k:=by
 by_cases hl:ks.length=js.length
 ·exact ⟨_,EqT.lst (n:=0) (e:=fun j=>eqV (iV (ks.getD j 0)) (iV (js.getD j 0))) (.of ha) (.of hb) (by rw [List.length_map,List.length_map,hl]) fun j x y h1 h2=>by
   rw [List.getElem?_map] at h1 h2
   obtain ⟨k,hk,rfl⟩:=Option.map_eq_some_iff.mp h1
   obtain ⟨i,hi,rfl⟩:=Option.map_eq_some_iff.mp h2
   rw [List.getD_eq_getElem?_getD,hk,List.getD_eq_getElem?_getD,hi]
   exact EqD.flat rfl rfl⟩
 ·exact ⟨false,.lstL (.of ha) (.of hb) (by rw [List.length_map,List.length_map];exact hl)⟩
section
variable {P:Program} {w:World} {K:W.Frag} {mg:Str→Option Value} {base:Heap} {cc:Nat→Addr} {cw:Addr}
theorem ok_lawJ {f:Addr} {fd:FuncData} (F:Fun K "law" "law" qaD f fd) (T:Txt K mg cc cw) (D_l_cell:DefOk P w K mg base CX0 1 "_law_cell" ["_law_script", "_law_k"] (qgD K)) (D_l_purse:DefOk P w K mg base CX0 1 "_law_purse" ["_law_cell_here"] qgE) (D_l_take:DefOk P w K mg base CX0 1 "_law_take" ["_law_purse_here", "_law_many_here"] qcE)
  (D_l_many:DefOk P w K mg base CX0 2 "_law_many" ["_law_purse_here", "_law_most"] qfB) (D_l_names:DefOk P w K mg base CX0 2 "_law_names" ["_law_purse_here", "_law_many_here"] qfC) (D_l_ties:DefOk P w K mg base CX0 2 "_law_ties" ["_law_purse_here", "_law_many_here"] qfD)
  (D_l_made:DefOk P w K mg base CX0 7 "_law_made" ["_law_names_here", "_law_ties_here"] (qfE cc cw)) (D_l_bits:DefOk P w K mg base CX0 1 "_law_bits" ["_law_many_here", "_law_ties_here"] qfF) (D_l_some:DefOk P w K mg base CX0 2 "_law_some" ["_law_purse_here", "_law_many_here", "_law_thin"] qfH)
  (D_l_pieces:DefOk P w K mg base CX0 1 "_law_pieces" ["_law_many_here", "_law_bits_here", "_law_room_here"] qfI) (D_l_room:DefOk P w K mg base CX0 1 "_law_room" ["_law_many_here", "_law_gone"] qfG) (D_l_right:DefOk P w K mg base CX0 13 "_law_right" ["_law_web", "_law_bar", "_law_due", "_law_turns"] (qfJ cw))
  (D_l_refused:DefOk P w K mg base CX0 13 "_law_refused" ["_law_way", "_law_web", "_law_thing"] (qfL cw)) (D_l_bad:DefOk P w K mg base CX0 2 "_law_bad" ["_law_purse_here", "_law_names_here", "_law_bar"] qfK):FnOk P w K mg base CX0 14 f fd ["_law_script"] (qel K):=by
 refine F.ok sc_law (fun vs H Q E h=>?_) fun cdv A outer s H vs Q E hr h=>?_
 ·obtain ⟨a,ns,rfl,_⟩:=h;rfl
 ·obtain ⟨a,nz,rfl,hS,hlen,q⟩:=h
  have hu:=zX hr
  obtain ⟨TC107,hTC7⟩:∃ t:TS,t=fun D σ J=>∃ (H1:Hp) (p n x bb so g0 g1:Addr) (ss:List Str) (ns bs:List Nat) (TI:List (Nat×Nat)) (gs0 gs1:List Nat) (y1 y5 y9 y10 y11 y12:Option V),
    (∀ σ' J',L2.Same H1 J'→(∃ y1 y2 y3 y4 y5 y6 y7 y8 y9 y10 y11 y12,σ'=[some (.ref a),y1,y2,y3,y4,y5,y6,y7,y8,y9,y10,y11,y12])→D.nx σ' J')∧σ=[some (.ref a),y1,some (.ref p),some (.int (ss.length:Int)),some (.ref n),y5,some (.ref x),some (.ref bb),some (.ref so),y9,y10,y11,y12] ∧
    L2.Same H1 J∧H1 p=none∧LG ss ns bs TI∧LJ cw p n x bb ss ns bs J∧BJ p so g0 g1 ss.length gs0 gs1 J:=⟨_,rfl⟩
  obtain ⟨TC108,hTC8⟩:∃ t:TS,t=TC107:=⟨_,rfl⟩
  refine ⟨_,(qd (jt PassesOwn.never rfl (jo (K:=K) rfl (qp (jU (K:=K) rfl) (jG (qec (K:=K) rfl) (pv 0) ze (j1 qg)) (qK (qa (qu D_l_cell (hmR hr) qC (qa (pv 0) (qa qg qc))) qc)))) (qr (i:=1) sc_law.nd rfl (Or.inl rfl))
 (qd (qo (i:=2) sc_law.nd rfl (Or.inr rfl) (qu D_l_purse (hmR hr) qC (qa (pv 1) qc)))
 (qd (qo (i:=3) sc_law.nd rfl (Or.inr rfl) (qu D_l_many (hmR hr) qC (qa (pv 2) (qa qg qc))))
 (qd (qo (i:=4) sc_law.nd rfl (Or.inr rfl) (qu D_l_names (hmR hr) qC (qa (pv 2) (qa (pv 3) qc))))
 (qd (qo (i:=5) sc_law.nd rfl (Or.inl rfl) (qu D_l_ties (hmR hr) qC (qa (pv 2) (qa (pv 3) qc))))
 (qd (qo (i:=6) sc_law.nd rfl (Or.inl rfl) (qu D_l_made (hmR hr) qC (qa (pv 4) (qa (pv 5) qc))))
 (qd (qo (i:=7) sc_law.nd rfl (Or.inl rfl) (qu D_l_bits (hmR hr) qC (qa (pv 3) (qa (pv 5) qc))))
 (qd (zV (sc:=qe qaD) (XN:=["_law_script", "_law_cell_here", "_law_purse_here", "_law_many_here", "_law_names_here", "_law_ties_here", "_law_web", "_law_bits_here", "_law_some_here", "_law_gone", "_law_due", "_law_bar", "_law_way"]) ["_law_turn", "_law_purse_here", "_law_many_here"] 1 [2,3] rfl rfl rfl (by decide +kernel) rfl (by decide +kernel) (i:=8) sc_law.nd rfl rfl
  (qT rfl T.b_range (qa qg qc)) (fun _ _ _ _=>(qr (i:=0) (show (["_law_turn", "_law_purse_here", "_law_many_here"]:List Str).Nodup by decide +kernel) rfl (Or.inl rfl))) jg
  (fun _ _ _ _=>zp)
  (fun _ _ _ _=>(qu D_l_some (hmR hr) qC (qa (pv 1) (qa (pv 2) (qa (qp (jU (K:=K) rfl) qg (qu D_l_take (hmR hr) qC (qa (pv 1) (qa qg qc)))) qc))))))
 (qaA TC107 (qd (jt PassesOwn.never rfl (jo (K:=K) rfl (qK (qa (qD (qE (K:=K) rfl hu) (pv 8) qg (fun _ _=>rfl)) (qa (qD (qE (K:=K) rfl hu) (pv 8) qg (fun _ _=>rfl)) (qa (qD (qE (K:=K) rfl hu) (pv 8) qg (fun _ _=>rfl)) qc))))) (qr (i:=9) sc_law.nd rfl (Or.inl rfl))
 (qd (zV (sc:=qe qaD) (XN:=["_law_script", "_law_cell_here", "_law_purse_here", "_law_many_here", "_law_names_here", "_law_ties_here", "_law_web", "_law_bits_here", "_law_some_here", "_law_gone", "_law_due", "_law_bar", "_law_way"]) ["_law_piece", "_law_names_here"] 1 [4] rfl rfl rfl (by decide +kernel) rfl (by decide +kernel) (i:=10) sc_law.nd rfl rfl
  (jo (K:=K) rfl (qu D_l_pieces (hmR hr) qC (qa (pv 3) (qa (pv 7) (qa (qu D_l_room (hmR hr) qC (qa (pv 3) (qa (pv 9) qc))) qc))))) (fun _ _ _ _=>(qr (i:=0) (show (["_law_piece", "_law_names_here"]:List Str).Nodup by decide +kernel) rfl (Or.inl rfl))) jg
  (fun _ _ _ _=>zp)
  (fun _ _ _ _=>(pe_compIn ["_law_k", "_law_names_here"] 1 [1] rfl (by decide +kernel) rfl (by decide +kernel)
  (jo (K:=K) rfl (pv 0)) (fun _ _ _ _=>(qr (i:=0) (show (["_law_k", "_law_names_here"]:List Str).Nodup by decide +kernel) rfl (Or.inl rfl))) jg
  (fun _ _ _ _=>zp)
  (fun _ _ _ _=>(qD (qE (K:=K) rfl hu) (pv 1) (pv 0) (fun _ _=>rfl))))))
 (qf (jf (jK (jr (qu D_l_right (hmR hr) qC (qa (pv 6) (qa (j2 (sc:=qe qaD) (XN:=["_law_script", "_law_cell_here", "_law_purse_here", "_law_many_here", "_law_names_here", "_law_ties_here", "_law_web", "_law_bits_here", "_law_some_here", "_law_gone", "_law_due", "_law_bar", "_law_way"]) ["_law_k", "_law_names_here"] 1 [4] rfl rfl rfl (by decide +kernel) rfl (by decide +kernel)
  (jo (K:=K) rfl (pv 9)) (fun _ _ _ _=>(qr (i:=0) (show (["_law_k", "_law_names_here"]:List Str).Nodup by decide +kernel) rfl (Or.inl rfl))) jg
  (fun _ _ _ _=>zp)
  (fun _ _ _ _=>(qD (qE (K:=K) rfl hu) (pv 1) (pv 0) (fun _ _=>rfl)))) (qa (pv 10) (qa (qp (jU (K:=K) rfl) qg (zC call_int1 rfl T.b_int boot_int (qa (qaX (za (K:=K) rfl hu) (pv 9) (qD (qE (K:=K) rfl hu) (pv 8) qg (fun _ _=>rfl)) (qB _)) qc))) qc))))))) (qf (qq zA)) qv))))
 (qaA TC108 (qd (zV (sc:=qe qaD) (XN:=["_law_script", "_law_cell_here", "_law_purse_here", "_law_many_here", "_law_names_here", "_law_ties_here", "_law_web", "_law_bits_here", "_law_some_here", "_law_gone", "_law_due", "_law_bar", "_law_way"]) ["_law_k", "_law_names_here"] 1 [4] rfl rfl rfl (by decide +kernel) rfl (by decide +kernel) (i:=11) sc_law.nd rfl rfl
  (jo (K:=K) rfl (qD (qE (K:=K) rfl hu) (pv 8) qg (fun _ _=>rfl))) (fun _ _ _ _=>(qr (i:=0) (show (["_law_k", "_law_names_here"]:List Str).Nodup by decide +kernel) rfl (Or.inl rfl))) jg
  (fun _ _ _ _=>zp)
  (fun _ _ _ _=>(qD (qE (K:=K) rfl hu) (pv 1) (pv 0) (fun _ _=>rfl))))
 (qf (jt PassesOwn.never rfl (qT rfl T.b_range (qa qg qc)) (qr (i:=12) sc_law.nd rfl (Or.inl rfl))
 (qf (jf (jK (jr (qu D_l_refused (hmR hr) qC (qa (pv 12) (qa (pv 6) (qa (qu D_l_bad (hmR hr) qC (qa (pv 2) (qa (pv 4) (qa (pv 11) qc)))) qc)))))) (qf (qq zA)) qv))))) ?cut108)) ?cut107)))))))))
 (qf (qq zA))),?_⟩
  case cut108 =>
   intro D σ J h
   rw [hTC8,hTC7] at h
   obtain ⟨H1,p,n,x,bb,so,g0,g1,ss,ns,bs,TI,gs0,gs1,y1,y5,y9,y10,y11,y12,hD,rfl,sJ,hp1,hG,hL,hB⟩:=h
   have l2:=hG.o.few
   have l1:=qbA hB.n0 hB.l0
   walk_at "vc"
   refine .inl (zZ hB.es (v:=.ref g0) (qH (j:=0) rfl) ?_)
   refine .inl ⟨⟨_,.of hB.e0⟩,jm (xs:=gs0.map iV) (fun i ys G=>G=J∧ys=nmL ss (gs0.take i)) ⟨rfl,rfl⟩ (fun i ys G _ hp'=>by rw [hp'.1];exact .of hB.e0) (fun i y ys G hy hp'=>?_) fun ys G hp'=>?_⟩
   ·obtain ⟨rfl,rfl⟩:=hp'
    rw [List.getElem?_map] at hy
    obtain ⟨k,hk,rfl⟩:=Option.map_eq_some_iff.mp hy
    walk_at "vc"
    refine qcg ?_
    walk_at "vc"
    refine qcF hL.nm (hB.l0 k (List.mem_of_getElem? hk)) ?_
    refine ⟨by rw [List.length_map,List.length_take];exact qh (by omega),rfl,?_⟩
    rw [List.take_add_one,hk]
    show _=List.map _ (_++[k])
    rw [List.map_append]
    rfl
   ·obtain ⟨rfl,rfl⟩:=hp'
    rw [show (gs0.map iV).length=gs0.length from List.length_map ..,List.take_length]
    refine ⟨by rw [List.length_map];exact Nat.le_of_lt (qh (by omega)),fun b hb=>?_⟩
    have s1:=qY (L2.Same.refl G) (o:=.lst (nmL ss gs0)) hb
    have eb:upd G b (.lst (nmL ss gs0)) b=some (.lst (nmL ss gs0)):=qb
    have pb:=hL.pu.apart hb
    have hL1:=hL.same s1
    have hB1:=hB.same s1
    have sJ1:=sJ.trans s1
    generalize upd G b (.lst (nmL ss gs0))=J1 at s1 eb hL1 hB1 sJ1
    walk_at "vc"
    refine ⟨3,rfl,by decide,by decide,jL (lo:=0) (n:=3) (fun i σ J2=>L2.Same H1 J2∧But p J1 J2∧Pu J2 p∧∃ y12,σ=[some (.ref a),y1,some (.ref p),some (.int (ss.length:Int)),some (.ref n),y5,some (.ref x),some (.ref bb),some (.ref so),y9,y10,some (.ref b),y12]) ⟨sJ1,fun c o _ e=>e,hL1.pu,_,rfl⟩ (fun i σ J2 hi hp=>?_) fun σ J2 hp=>?_⟩
    ·obtain ⟨s2,b2,hp2,y12',rfl⟩:=hp
     rw [Int.zero_add]
     have hL2:=hL1.but b2 hp2
     walk_at "vc"
     refine ⟨p,n,b,ss,gs0,rfl,hp2,hL.np,pb,hL2.nm,hG.o,b2 _ _ pb eb,hB.n0,hB.l0,fun v J3 b3 hp3 hbad=>?_⟩
     have hL3:=hL2.but b3 hp3
     walk_at "vc"
     refine ⟨p,x,ss,ns,v,i,rfl,hL3.wb.web,hbad,fun J4 s4=>?_⟩
     walk_at "vc"
     refine jk (fun h=>by cases h) fun _=>?_
     walk_at "vc"
     refine ⟨fun c o e=>s4 _ _ (b3 c o (fun z=>by rw [z,hp1] at e;cases e) (s2 c o e)),b2.trans7 fun c o hc e=>s4 _ _ (b3 c o hc e),hp3.same s4,_,rfl⟩
    ·obtain ⟨s2,b2,hp2,y12',rfl⟩:=hp
     exact hD _ _ s2 ⟨_,_,_,_,_,_,_,_,_,_,_,_,rfl⟩
  case cut107 =>
   intro D σ J h
   rw [hTC7] at h
   obtain ⟨H1,p,n,x,bb,so,g0,g1,ss,ns,bs,TI,gs0,gs1,y1,y5,y9,y10,y11,y12,hD,rfl,sJ,hp1,hG,hL,hB⟩:=h
   have l2:=hG.o.few
   walk_at "vc"
   refine .inl (zZ hB.es (v:=.ref g0) (qH (j:=0) rfl) ?_)
   walk_at "vc"
   refine .inl (zZ hB.es (v:=.ref g1) (qH (j:=1) rfl) ?_)
   walk_at "vc"
   refine .inl (zZ hB.es (v:=.ref g0) (qH (j:=0) rfl) ?_)
   walk_at "vc"
   refine ⟨by show 3≤sizeLine;decide,fun l3 hl3=>?_⟩
   have s1:=qY (L2.Same.refl J) (o:=.lst [.ref g0,.ref g1,.ref g0]) hl3
   have e3:upd J l3 (.lst [.ref g0,.ref g1,.ref g0]) l3=some (.lst [.ref g0,.ref g1,.ref g0]):=qb
   have hL1:=hL.same s1
   have hB1:=hB.same s1
   have sJ1:=sJ.trans s1
   generalize upd J l3 (.lst [.ref g0,.ref g1,.ref g0])=J1 at s1 e3 hL1 hB1 sJ1
   have hm:∀ v∈[V.ref g0,.ref g1,.ref g0],∃ (g:Addr) (gs:List Nat),v=.ref g∧J1 g=some (.lst (gs.map iV))∧gs.Nodup∧∀ k∈gs,k < ss.length:=fun v hv=>by
    simp only [List.mem_cons,List.not_mem_nil,or_false] at hv
    rcases hv with rfl | rfl | rfl
    ·exact ⟨g0,gs0,rfl,hB1.e0,hB.n0,hB.l0⟩
    ·exact ⟨g1,gs1,rfl,hB1.e1,hB.n1,hB.l1⟩
    ·exact ⟨g0,gs0,rfl,hB1.e0,hB.n0,hB.l0⟩
   generalize [V.ref g0,.ref g1,.ref g0]=xs at e3 hm
   refine .inl ⟨⟨_,.of e3⟩,jS (xs:=xs) (fun i σ J2=>L2.Same J1 J2∧∃ y9 y10,σ=[some (.ref a),y1,some (.ref p),some (.int (ss.length:Int)),some (.ref n),y5,some (.ref x),some (.ref bb),some (.ref so),y9,y10,y11,y12]) ⟨L2.Same.refl J1,_,_,rfl⟩ (fun i σ J2 _ hp=>.of (hp.1 _ _ e3)) (fun i y σ J2 hy hp=>?_) fun σ J2 hp=>?_⟩
   ·obtain ⟨s2,y9',y10',rfl⟩:=hp
    obtain ⟨g,gs,rfl,eg,hnd,hlt⟩:=hm y (List.mem_of_getElem? hy)
    have l1:=qbA hnd hlt
    have hL2:=hL1.same s2
    have hB2:=hB1.same s2
    have eg2:=s2 _ _ eg
    walk_at "vc"
    refine ⟨g,ss.length,gs,rfl,l2,eg2,fun J3 s3=>?_⟩
    have hL3:=hL2.same s3
    have hbt:=qfM hG.b
    walk_at "vc"
    refine ⟨bb,ss.length,(jB gs ss.length).sum,bs,rfl,l2,hL3.bt,hG.b.1,hG.b.2.1,hbt.1,(qcG gs ss.length).1,fun l ls J4 s4 hl0 hl4 hA=>?_⟩
    have hdue:=pcs_due hG hlt
    have hcl:∀ c∈(zG bs (jB gs ss.length).sum ss.length).map (qaB bs (jB gs ss.length).sum ss.length),c.length≤ss.length∧∀ k∈c,k < ss.length:=fun c hc=>by
     obtain ⟨k,_,rfl⟩:=List.mem_map.mp hc
     refine ⟨?_,fun j hj=>?_⟩
     ·unfold qaB
      exact Nat.le_trans (List.length_filter_le _ _) (by rw [List.length_range];exact Nat.le_refl _)
     ·unfold qaB at hj
      exact List.mem_range.mp (List.mem_filter.mp hj).1
    have hrl:((zG bs (jB gs ss.length).sum ss.length).map (qaB bs (jB gs ss.length).sum ss.length)).length≤ss.length:=by
     rw [List.length_map]
     unfold zG
     exact Nat.le_trans (List.length_filter_le _ _) (by rw [List.length_range];exact Nat.le_refl _)
    generalize (zG bs (jB gs ss.length).sum ss.length).map (qaB bs (jB gs ss.length).sum ss.length)=CS at hA hdue hcl hrl
    have hL4:=hL3.same s4
    have s24:=s3.trans s4
    have hsl:ls.length=CS.length:=hA.len
    refine .inl ⟨⟨_,.of hl4⟩,jm (xs:=ls.map V.ref) (fun i ys G=>L2.Same J4 G∧∃ ds:List Addr,ys=ds.map V.ref∧All2 (fun d ks=>G d=some (.lst (ks.map V.str))) ds ((CS.take i).map fun c=>c.map (tn ss))) ⟨L2.Same.refl J4,[],rfl,.nil⟩ (fun i ys G _ hp'=>.of (hp'.1 _ _ hl4)) (fun i y ys G hy hp'=>?_) fun ys G hp'=>?_⟩
    ·obtain ⟨sG,ds,rfl,hds⟩:=hp'
     rw [List.getElem?_map] at hy
     obtain ⟨c,hc,rfl⟩:=Option.map_eq_some_iff.mp hy
     have hi2:i < CS.length:=by rw [← hsl];exact (List.getElem?_eq_some_iff.mp hc).1
     obtain ⟨ks,hks⟩:∃ ks,CS[i]?=some ks:=⟨_,List.getElem?_eq_getElem hi2⟩
     have hcp:=sG _ _ (hA.at_ i c ks hc hks)
     obtain ⟨hkl,hkb⟩:=hcl ks (List.mem_of_getElem? hks)
     have hnm:=(hL4.same sG).nm
     have hdl:ds.length≤14:=by rw [hds.len,List.length_map,List.length_take];omega
     walk_at "vc"
     refine qcg ?_
     walk_at "vc"
     refine .inl ⟨⟨_,.of hcp⟩,jm (xs:=ks.map iV) (fun i ys G'=>G'=G∧ys=nmL ss (ks.take i)) ⟨rfl,rfl⟩ (fun i ys G' _ hp'=>by rw [hp'.1];exact .of hcp) (fun i y ys G' hy hp'=>?_) fun ys G' hp'=>?_⟩
     ·obtain ⟨rfl,rfl⟩:=hp'
      rw [List.getElem?_map] at hy
      obtain ⟨k,hk,rfl⟩:=Option.map_eq_some_iff.mp hy
      walk_at "vc"
      refine qcg ?_
      walk_at "vc"
      refine qcF hnm (hkb k (List.mem_of_getElem? hk)) ?_
      refine ⟨by rw [List.length_map,List.length_take];exact qh (by omega),rfl,?_⟩
      rw [List.take_add_one,hk]
      show _=List.map _ (_++[k])
      rw [List.map_append]
      rfl
     ·obtain ⟨rfl,rfl⟩:=hp'
      rw [show (ks.map iV).length=ks.length from List.length_map ..,List.take_length]
      refine ⟨by rw [List.length_map];exact Nat.le_of_lt (qh (by omega)),fun d hd=>?_⟩
      have enm:nmL ss ks=(ks.map (tn ss)).map V.str:=by rw [List.map_map];rfl
      rw [enm]
      have s5:=qY (L2.Same.refl G') (o:=.lst ((ks.map (tn ss)).map V.str)) hd
      refine ⟨by rw [List.length_map];exact qh (by omega),sG.trans s5,ds++[d],by rw [List.map_append];rfl,?_⟩
      rw [List.take_add_one,hks,List.map_append]
      exact (hds.mono fun d' ks' z=>s5 _ _ z).snoc qb
    ·obtain ⟨sG,ds,rfl,hds⟩:=hp'
     rw [show (ls.map V.ref).length=CS.length by rw [List.length_map,hsl],List.take_length] at hds
     have hdl:ds.length≤14:=by rw [hds.len,List.length_map];omega
     refine ⟨by rw [List.length_map];exact Nat.le_of_lt (qh (by omega)),fun dl hdl0=>?_⟩
     have s5:=qY (L2.Same.refl G) (o:=.lst (ds.map V.ref)) hdl0
     have e5:upd G dl (.lst (ds.map V.ref)) dl=some (.lst (ds.map V.ref)):=qb
     generalize upd G dl (.lst (ds.map V.ref))=J5 at s5 e5
     have s45:=sG.trans s5
     have s25:=s24.trans s45
     have hL5:=hL2.same s25
     have eg5:=s25 _ _ eg2
     walk_at "vc"
     refine .inl ⟨⟨_,.of eg5⟩,jm (xs:=gs.map iV) (fun i ys G'=>G'=J5∧ys=nmL ss (gs.take i)) ⟨rfl,rfl⟩ (fun i ys G' _ hp'=>by rw [hp'.1];exact .of eg5) (fun i y ys G' hy hp'=>?_) fun ys G' hp'=>?_⟩
     ·obtain ⟨rfl,rfl⟩:=hp'
      rw [List.getElem?_map] at hy
      obtain ⟨k,hk,rfl⟩:=Option.map_eq_some_iff.mp hy
      walk_at "vc"
      refine qcg ?_
      walk_at "vc"
      refine qcF hL5.nm (hlt k (List.mem_of_getElem? hk)) ?_
      refine ⟨by rw [List.length_map,List.length_take];exact qh (by omega),rfl,?_⟩
      rw [List.take_add_one,hk]
      show _=List.map _ (_++[k])
      rw [List.map_append]
      rfl
     ·obtain ⟨rfl,rfl⟩:=hp'
      rw [show (gs.map iV).length=gs.length from List.length_map ..,List.take_length]
      refine ⟨by rw [List.length_map];exact Nat.le_of_lt (qh (by omega)),fun b hb=>?_⟩
      have s6:=qY (L2.Same.refl G') (o:=.lst (nmL ss gs)) hb
      have e6:upd G' b (.lst (nmL ss gs)) b=some (.lst (nmL ss gs)):=qb
      have pb:=hL5.pu.apart hb
      generalize upd G' b (.lst (nmL ss gs))=J6 at s6 e6
      have s26:=s25.trans s6
      have hL6:=hL5.same s6
      have hB6:=hB2.same s26
      obtain ⟨k,hk⟩:=eqT_ints (K:=K) (s6 _ _ eg5) hB6.e1
      walk_at "vc"
      refine .inl (zZ hB6.es (v:=.ref g1) (qH (j:=1) rfl) ?_)
      refine .inl (.inl (.inr (.inl ⟨g,g1,k,1,rfl,rfl,by decide,hk,?_⟩)))
      walk_at "vc"
      refine .inr ⟨_,rfl,?_⟩
      walk_at "vc"
      obtain ⟨tu,etu,htu⟩:∃ tu:Nat,(1:Int) + (if (if false=true then !k else k)=true then 1 else 0)=(tu:Int)∧tu≤2:=by
       cases k
       ·exact ⟨1,rfl,by decide⟩
       ·exact ⟨2,rfl,by decide⟩
      rw [etu]
      refine ⟨p,x,b,dl,ss,ns,_,gs,ds,_,tu,rfl,htu,hL6.wb.web,hG.g,hG.o,pb,e6,hnd,hlt,by omega,?_,s6 _ _ e5,hds.mono fun d' ks' z=>s6 _ _ (s5 _ _ z),?_,hdue,fun J7 s7=>?_⟩
      ·rw [List.length_map];omega
      ·intro ks hks
       obtain ⟨c,hc,rfl⟩:=List.mem_map.mp hks
       rw [List.length_map]
       have:=(hcl c hc).1
       omega
      ·walk_at "vc"
       refine jk (fun h=>by cases h) fun _=>?_
       walk_at "vc"
       exact ⟨s2.trans (s26.trans s7),_,_,rfl⟩
   ·obtain ⟨s2,y9',y10',rfl⟩:=hp
    walk_at "vc"
    rw [hTC8,hTC7]
    exact ⟨H1,p,n,x,bb,so,g0,g1,ss,ns,bs,TI,gs0,gs1,_,_,_,_,_,_,hD,rfl,sJ1.trans s2,hp1,hG,hL1.same s2,hB1.same s2⟩
  walk_at "vc"
  refine .inl ⟨a,_,rfl,hS,fun k hk0=>?_⟩
  obtain ⟨nt,ent,hnt⟩:∃ nt:List Int,qcq (nz.map V.int) none (some 8)=nt.map V.int∧nt.length≤8:=by
   have:=qa6 (nz.map V.int) 8
   rw [show ((8:Nat):Int)=8 from rfl] at this
   exact ⟨nz.take 8,by rw [this,List.map_take],by rw [List.length_take];omega⟩
  rw [ent]
  have s1:=qY (L2.Same.refl H) (o:=.lst (nt.map V.int)) hk0
  have hk1:upd H k (.lst (nt.map V.int)) k=some (.lst (nt.map V.int)):=qb
  generalize upd H k (.lst (nt.map V.int))=H1 at s1 hk1
  walk_at "vc"
  refine ⟨a,nz,8,rfl,s1.seq hS,by decide,fun c8=>?_⟩
  walk_at "vc"
  refine ⟨by show 1≤sizeLine;decide,fun k2 hk20=>?_⟩
  have s2:=qY s1 (o:=.lst [.int c8]) hk20
  have s12:=qY (L2.Same.refl H1) (o:=.lst [.int c8]) hk20
  have hk2:upd H1 k2 (.lst [.int c8]) k2=some (.lst [.int c8]):=qb
  generalize upd H1 k2 (.lst [.int c8])=H2 at s2 s12 hk2
  refine .inl ⟨k,k2,_,_,rfl,rfl,s12 _ _ hk1,hk2,by rw [List.length_map];exact Nat.le_of_lt (qh (by simp only [List.length_cons,List.length_nil];omega)),fun lc hlc=>?_⟩
  have ecl:nt.map V.int++[.int c8]=(nt++[c8]).map V.int:=by rw [List.map_append];rfl
  rw [ecl]
  have s3:=qY s2 (o:=.lst ((nt++[c8]).map V.int)) hlc
  have e3:upd H2 lc (.lst ((nt++[c8]).map V.int)) lc=some (.lst ((nt++[c8]).map V.int)):=qb
  generalize upd H2 lc (.lst ((nt++[c8]).map V.int))=H3 at s3 e3
  generalize nt++[c8]=cs at e3
  refine .inl ⟨⟨_,.of e3⟩,jS (xs:=cs.map V.int) (fun i σ J=>L2.Same H3 J∧∃ y1 y2 y3 y4 y5 y6 y7 y8 y9 y10 y11 y12,σ=[some (.ref a),y1,y2,y3,y4,y5,y6,y7,y8,y9,y10,y11,y12]) ⟨L2.Same.refl H3,_,_,_,_,_,_,_,_,_,_,_,_,rfl⟩ (fun i σ J _ hp=>.of (hp.1 _ _ e3)) (fun i y σ J hy hp=>?_) fun σ J hp=>?_⟩
  ·obtain ⟨sJ,y1,y2,y3,y4,y5,y6,y7,y8,y9,y10,y11,y12,rfl⟩:=hp
   rw [List.getElem?_map] at hy
   obtain ⟨c,hc,rfl⟩:=Option.map_eq_some_iff.mp hy
   walk_at "vc"
   refine ⟨c,rfl,fun p J1 sJ1 hp0 hP1=>?_⟩
   have hp3:H3 p=none:=sJ.free hp0
   have b31:But p H3 J1:=fun c o _ e=>sJ1 c o (sJ c o e)
   walk_at "vc"
   refine ⟨p,14,rfl,hP1,by decide,fun m J2 hm b2 hP2=>?_⟩
   walk_at "vc"
   refine ⟨p,m,rfl,hP2,hm,fun n ss J3 b3 hP3 hn0 hnp hn3 hO hsl=>?_⟩
   subst hsl
   walk_at "vc"
   refine ⟨p,ss.length,rfl,hP3,hm,fun t ts TI J4 b4 hP4 ht0 htp hI hT=>?_⟩
   walk_at "vc"
   refine ⟨n,t,ss,ts,TI,rfl,b4 _ _ hnp hn3,hO,hI,hT,fun x ns J5 s5 hx0 hW hAd hWG=>?_⟩
   have hWP:WebP (fun z=>z=p) cw J5 x ss ns:=hW.apart (fun z=>by obtain ⟨u,v,w,e,_⟩:=hP4;rw [z,e] at hx0;cases hx0) (fun z e=>by subst e;obtain ⟨u,v,w,e,_⟩:=hP4;rw [e];exact fun z=>by cases z)
   walk_at "vc"
   refine ⟨t,ss.length,ts,TI,rfl,hm,hI.same s5,hT,fun bb bs J6 s6 hbb0 hbb hBt=>?_⟩
   have hP6:=(hP4.same s5).same s6
   have b46:But p J4 J6:=fun c o _ e=>s6 c o (s5 c o e)
   have b36:But p H3 J6:=(((b31.trans7 b2).trans7 b3).trans7 b4).trans7 b46
   have hL6:LJ cw p n x bb ss ns bs J6:=⟨hP6,b46 _ _ hnp (b4 _ _ hnp hn3),hnp,hWP.keep fun c o _ e=>s6 c o e,hbb,(hP4.same s5).apart hbb0⟩
   walk_at "vc"
   refine ⟨2,rfl,by decide,by decide,jV (lo:=0) (n:=2) (fun i ys J=>But p J6 J∧Pu J p∧∃ GS:List (Addr×List Nat),GS.length=i∧ys=GS.map (fun g=>V.ref g.1)∧∀ g∈GS,J g.1=some (.lst (g.2.map iV))∧g.1≠p∧g.2.Nodup∧∀ k∈g.2,k < ss.length) ⟨fun c o _ e=>e,hP6,[],rfl,rfl,fun g hg=>by cases hg⟩ (fun i ys J hi hp=>?_) fun ys J hp=>?_⟩
   ·obtain ⟨bJ,hPJ,GS,hGl,rfl,hGS⟩:=hp
    walk_at "vc"
    refine qcg ?_
    walk_at "vc"
    refine ⟨p,4,rfl,hPJ,by decide,by decide,fun d J7 hd b7 hP7=>?_⟩
    walk_at "vc"
    have ed:(1:Int) + (d:Int)=((1 + d:Nat):Int):=by omega
    rw [ed]
    refine ⟨p,ss.length,1 + d,rfl,hP7,hm,by omega,by omega,fun g gs J8 b8 hP8 hg0 hgp hg8 hnd hlt=>?_⟩
    refine ⟨by rw [List.length_map];exact qh (by omega),(bJ.trans7 b7).trans7 b8,hP8,GS++[(g,gs)],by rw [List.length_append,hGl];rfl,by rw [List.map_append];rfl,fun z hz=>?_⟩
    rcases List.mem_append.mp hz with hz | hz
    ·obtain ⟨z1,z2,z3⟩:=hGS z hz
     exact ⟨b8 _ _ z2 (b7 _ _ z2 z1),z2,z3⟩
    ·rw [List.mem_singleton.mp hz]
     exact ⟨hg8,hgp,hnd,hlt⟩
   ·obtain ⟨bJ,hPJ,GS,hGl,rfl,hGS⟩:=hp
    obtain ⟨ga,gb,rfl⟩:∃ ga gb,GS=[ga,gb]:=by
     match GS,hGl with
     | [ga,gb],_=>exact ⟨ga,gb,rfl⟩
    refine ⟨by show 2≤sizeLine;decide,fun so hso=>?_⟩
    have s9:=qY (L2.Same.refl J) (o:=.lst [.ref ga.1,.ref gb.1]) hso
    have e9:upd J so (.lst [.ref ga.1,.ref gb.1]) so=some (.lst [.ref ga.1,.ref gb.1]):=qb
    have pso:=hPJ.apart hso
    have eu:upd J so (.lst ([ga,gb].map fun g=>V.ref g.1))=upd J so (.lst [.ref ga.1,.ref gb.1]):=rfl
    rw [eu]
    generalize upd J so (.lst [.ref ga.1,.ref gb.1])=J9 at s9 e9
    obtain ⟨a1,a2,a3,a4⟩:=hGS ga (by simp)
    obtain ⟨c1,c2,c3,c4⟩:=hGS gb (by simp)
    have b69:But p J6 J9:=fun c o hc e=>s9 c o (bJ c o hc e)
    have b39:=b36.trans7 b69
    walk_at "vc"
    rw [hTC7]
    refine ⟨H3,p,n,x,bb,so,ga.1,gb.1,ss,ns,bs,TI,ga.2,gb.2,_,_,_,_,_,_,fun σ' J' s' e'=>⟨s',e'⟩,rfl,fun c o e=>b39 c o (fun z=>by rw [z,hp3] at e;cases e) e,hp3,⟨hO,hT,hBt,hAd,hWG⟩,hL6.but b69 (hPJ.same s9),⟨e9,pso,s9 _ _ a1,s9 _ _ c1,a2,c2,a3,c3,a4,c4⟩⟩
  ·obtain ⟨sJ,y1,y2,y3,y4,y5,y6,y7,y8,y9,y10,y11,y12,rfl⟩:=hp
   walk_at "vc"
   exact q _
end
theorem all_mk {l:W.OpenLaw} {w:World} {K:W.Frag} {h:Heap} {mg:Str→Option Value} {fa Cw C0 C1 C2 C3 C4 C5 C6 C7:Addr} {ty0 ty1 ty2:Tok} (X:K.In h) (G:h.Ns mainGlobals mg) (hfa:mg "law"=some (.ref fa))
  (C0_:W.nsIn K mainGlobals "NoName"=some (some (.ref C0)))
  (C1_:W.nsIn K mainGlobals "Twice"=some (some (.ref C1)))
  (C2_:W.nsIn K mainGlobals "NoPlace"=some (some (.ref C2)))
  (C3_:W.nsIn K mainGlobals "NoTie"=some (some (.ref C3)))
  (C4_:W.nsIn K mainGlobals "TooMany"=some (some (.ref C4)))
  (C5_:W.nsIn K mainGlobals "NoPairs"=some (some (.ref C5)))
  (C6_:W.nsIn K mainGlobals "NoBar"=some (some (.ref C6)))
  (C7_:W.nsIn K mainGlobals "OnceError"=some (some (.ref C7)))
  (Cw_:W.nsIn K mainGlobals "Web"=some (some (.ref Cw)))
  (h_are_unlike_places:FG K "are_unlike_places" qF)
  (h_pieces_beside:FG K "pieces_beside" qJ)
  (h_odd_pieces:FG K "odd_pieces" qP)
  (h_lack_of:FG K "lack_of" j8)
  (h_is_name:FG K "is_name" j5)
  (h_has_bit:FG K "has_bit" zi)
  (h_is_place:FG K "is_place" jW)
  (h_are_two_places:FG K "are_two_places" qM)
  (h_numbers_of:FG K "numbers_of" jx)
  (h_near_of:FG K "near_of" zj)
  (h_piece_around:FG K "piece_around" je)
  (h_l_cell:FG K "_law_cell" zN)
  (h_l_purse:FG K "_law_purse" zk)
  (h_l_take:FG K "_law_take" zO)
  (h_l_names:FG K "_law_names" j7)
  (h_l_ties:FG K "_law_ties" zQ)
  (h_l_many:FG K "_law_many" zP)
  (h_l_made:FG K "_law_made" zR)
  (h_l_bits:FG K "_law_bits" zS)
  (h_l_pieces:FG K "_law_pieces" jA)
  (h_l_some:FG K "_law_some" zv)
  (h_l_room:FG K "_law_room" zu)
  (h_l_asked:FG K "_law_asked" j9)
  (h_l_refused:FG K "_law_refused" jE)
  (h_l_bad:FG K "_law_bad" qaC)
  (h_l_right:FG K "_law_right" jP)
  (h_law:FG K "law" qaD)
  (h_i0:FM K C0 "__init__" "NoName.__init__" jl)
  (h_i1:FM K C1 "__init__" "Twice.__init__" ju)
  (h_i2:FM K C2 "__init__" "NoPlace.__init__" q9)
  (h_i3:FM K C3 "__init__" "NoTie.__init__" jv)
  (h_i4:FM K C4 "__init__" "TooMany.__init__" jc)
  (h_i5:FM K C5 "__init__" "NoPairs.__init__" jd)
  (h_i6:FM K C6 "__init__" "NoBar.__init__" jw)
  (h_i7:FC K C7 "__init__" "OnceError.__init__" qL)
  (h_iw:FM K Cw "__init__" "Web.__init__" jX)
  (h_m_ties:FM K Cw "ties" "Web.ties" jZ)
  (h_m_has_place:FM K Cw "has_place" "Web.has_place" qV)
  (h_m_number_of:FM K Cw "number_of" "Web.number_of" qW)
  (h_m_beside:FM K Cw "beside" "Web.beside" jy)
  (h_m_bits_beside:FM K Cw "bits_beside" "Web.bits_beside" qI)
  (h_m_pieces:FM K Cw "pieces" "Web.pieces" jz)
  (h_m_names_in:FM K Cw "names_in" "Web.names_in" qS)
  (h_m_without:FM K Cw "without" "Web.without" qO)
  (X0:XL K C0 (.ref C7::qax))
  (q0:XQ K C0)
  (X1:XL K C1 (.ref C7::qax))
  (q1:XQ K C1)
  (X2:XL K C2 (.ref C7::qax))
  (q2:XQ K C2)
  (X3:XL K C3 (.ref C7::qax))
  (q3:XQ K C3)
  (X4:XL K C4 (.ref C7::qax))
  (q4:XQ K C4)
  (X5:XL K C5 (.ref C7::qax))
  (q5:XQ K C5)
  (X6:XL K C6 (.ref C7::qax))
  (q6:XQ K C6)
  (X7:XL K C7 qax)
  (q7:XQ K C7)
  (y0:W.findIn K (.ref C0) "found"=some none)
  (y1:W.findIn K (.ref C1) "name"=some none)
  (y2:W.findIn K (.ref C2) "found"=some none)
  (y3:W.findIn K (.ref C3) "found"=some none)
  (y4:W.findIn K (.ref C4) "many"=some none)
  (y5:W.findIn K (.ref C5) "found"=some none)
  (y6:W.findIn K (.ref C6) "found"=some none)
  (mo0:W.mroIn K C0 (.ref C7)=some true)
  (mo1:W.mroIn K C1 (.ref C7)=some true)
  (mo2:W.mroIn K C2 (.ref C7)=some true)
  (mo3:W.mroIn K C3 (.ref C7)=some true)
  (mo4:W.mroIn K C4 (.ref C7)=some true)
  (mo5:W.mroIn K C5 (.ref C7)=some true)
  (mo6:W.mroIn K C6 (.ref C7)=some true)
  (nd:([C0,C1,C2,C3,C4,C5,C6]++[C7]).Nodup)
  (r1:W.readsIn K C7 (.type "type")=true)
  (r3:W.specialIn K (.ref C7) "__getattribute__"=some (some (.builtin "type.__getattribute__")))
  (v1:W.findIn K (.type "type") "__getattribute__"=some (some (.builtin "type.__getattribute__")))
  (v3:W.subIn K (.type "type") (.type "type")=some true)
  (v4:W.findCls K (.type "ValueError") (.type "type") "__init__"=some (.val (.builtin "ValueError.__init__")))
  (w1:W.plainGet K Cw Str.empty=true)
  (w2:W.hasDictIn K Cw=true)
  (w3:W.plainOver K Cw=true)
  (w4:W.findIn K (.ref Cw) "__setattr__"=some (some (.builtin "object.__setattr__")))
  (w5:W.makesIn K Cw=true)
  (w6:W.keepIn K (.ref Cw)=true)
  (w7:W.findIn K (.ref Cw) "numbers"=some none)
  (w8:W.findIn K (.ref Cw) "order"=some none)
  (w9:W.findIn K (.ref Cw) "near"=some none)
  (w16:W.specialIn K (.builtin "object.__class__") "__get__"=some (some (.builtin "getset_descriptor.__get__")))
  (w17:W.takesIn K (.builtin "object.__class__")=some true)
  (zsum:W.nsIn K mainGlobals "sum"=some none)
  (zrep:W.nsIn K mainGlobals "repr"=some none)
  (smo:(K.lookup sysModules).isSome=true)
  (mr6:W.mroIn K C6 (.ref C6)=some true)
  (z0:W.nsIn K mainGlobals "len"=some none)
  (z1:W.nsIn K mainGlobals "int"=some none)
  (z2:W.nsIn K mainGlobals "enumerate"=some none)
  (z3:W.nsIn K mainGlobals "all"=some none)
  (z4:W.nsIn K mainGlobals "max"=some none)
  (z5:W.nsIn K mainGlobals "min"=some none)
  (z6:W.nsIn K mainGlobals "isinstance"=some none)
  (z7:W.nsIn K mainGlobals "bool"=some none)
  (z8:W.nsIn K mainGlobals "str"=some none)
  (z9:W.nsIn K mainGlobals "range"=some none)
  (z10:W.nsIn K mainGlobals "list"=some none)
  (z11:W.nsIn K mainGlobals "tuple"=some none)
  (z12:W.nsIn K mainGlobals "ValueError"=some none)
  (u0:W.nsIn K mainGlobals "LONGEST_NAME"=some (some (.int 6 ty0)))
  (u1:W.nsIn K mainGlobals "MOST_PLACES"=some (some (.int 14 ty1)))
  (u2:W.nsIn K mainGlobals "MOST_TIES"=some (some (.int 30 ty2))) :
  ∃ fd:FuncData,(∀ (s:Shared) (v:Value),BindsTo s fd ⟨[v],[]⟩ [("_law_script",v)])∧∀ base:Heap,K.In base→base.Ns mainGlobals mg→FnOk l.prog w K mg base CX0 14 fa fd ["_law_script"] (qel K):=by
 obtain ⟨f_are_unlike_places,e_are_unlike_places,a_are_unlike_places,F_Qab⟩:=h_are_unlike_places
 obtain ⟨f_pieces_beside,e_pieces_beside,a_pieces_beside,F_Qba⟩:=h_pieces_beside
 obtain ⟨f_odd_pieces,e_odd_pieces,a_odd_pieces,F_Qay⟩:=h_odd_pieces
 obtain ⟨f_lack_of,e_lack_of,a_lack_of,F_Qau⟩:=h_lack_of
 obtain ⟨f_is_name,e_is_name,a_is_name,F_Qad⟩:=h_is_name
 obtain ⟨f_has_bit,e_has_bit,a_has_bit,F_Qac⟩:=h_has_bit
 obtain ⟨f_is_place,e_is_place,a_is_place,F_Qae⟩:=h_is_place
 obtain ⟨f_are_two_places,e_are_two_places,a_are_two_places,F_Qaa⟩:=h_are_two_places
 obtain ⟨f_numbers_of,e_numbers_of,a_numbers_of,F_Qax⟩:=h_numbers_of
 obtain ⟨f_near_of,e_near_of,a_near_of,F_Qaw⟩:=h_near_of
 obtain ⟨f_piece_around,e_piece_around,a_piece_around,F_Qaz⟩:=h_piece_around
 obtain ⟨f_l_cell,e_l_cell,a_l_cell,F_Qai⟩:=h_l_cell
 obtain ⟨f_l_purse,e_l_purse,a_l_purse,F_Qan⟩:=h_l_purse
 obtain ⟨f_l_take,e_l_take,a_l_take,F_Qas⟩:=h_l_take
 obtain ⟨f_l_names,e_l_names,a_l_names,F_Qal⟩:=h_l_names
 obtain ⟨f_l_ties,e_l_ties,a_l_ties,F_Qat⟩:=h_l_ties
 obtain ⟨f_l_many,e_l_many,a_l_many,F_Qak⟩:=h_l_many
 obtain ⟨f_l_made,e_l_made,a_l_made,F_Qaj⟩:=h_l_made
 obtain ⟨f_l_bits,e_l_bits,a_l_bits,F_Qah⟩:=h_l_bits
 obtain ⟨f_l_pieces,e_l_pieces,a_l_pieces,F_Qam⟩:=h_l_pieces
 obtain ⟨f_l_some,e_l_some,a_l_some,F_Qar⟩:=h_l_some
 obtain ⟨f_l_room,e_l_room,a_l_room,F_Qaq⟩:=h_l_room
 obtain ⟨f_l_asked,e_l_asked,a_l_asked,F_Qaf⟩:=h_l_asked
 obtain ⟨f_l_refused,e_l_refused,a_l_refused,F_Qao⟩:=h_l_refused
 obtain ⟨f_l_bad,e_l_bad,a_l_bad,F_Qag⟩:=h_l_bad
 obtain ⟨f_l_right,e_l_right,a_l_right,F_Qap⟩:=h_l_right
 obtain ⟨f_law,e_law,a_law,F_Qav⟩:=h_law
 obtain ⟨f_i0,e_i0,a_i0,n_i0,F_i0⟩:=h_i0
 obtain ⟨f_i1,e_i1,a_i1,n_i1,F_i1⟩:=h_i1
 obtain ⟨f_i2,e_i2,a_i2,n_i2,F_i2⟩:=h_i2
 obtain ⟨f_i3,e_i3,a_i3,n_i3,F_i3⟩:=h_i3
 obtain ⟨f_i4,e_i4,a_i4,n_i4,F_i4⟩:=h_i4
 obtain ⟨f_i5,e_i5,a_i5,n_i5,F_i5⟩:=h_i5
 obtain ⟨f_i6,e_i6,a_i6,n_i6,F_i6⟩:=h_i6
 obtain ⟨f_i7,e_i7,a_i7,F_i7⟩:=h_i7
 obtain ⟨f_iw,e_iw,a_iw,n_iw,F_iw⟩:=h_iw
 obtain ⟨f_m_ties,e_m_ties,a_Qbh,n_Qbh,F_Qbh⟩:=h_m_ties
 obtain ⟨f_m_has_place,e_m_has_place,a_Qbd,n_Qbd,F_Qbd⟩:=h_m_has_place
 obtain ⟨f_m_number_of,e_m_number_of,a_Qbf,n_Qbf,F_Qbf⟩:=h_m_number_of
 obtain ⟨f_m_beside,e_m_beside,a_Qbb,n_Qbb,F_Qbb⟩:=h_m_beside
 obtain ⟨f_m_bits_beside,e_m_bits_beside,a_Qbc,n_Qbc,F_Qbc⟩:=h_m_bits_beside
 obtain ⟨f_m_pieces,e_m_pieces,a_Qbg,n_Qbg,F_Qbg⟩:=h_m_pieces
 obtain ⟨f_m_names_in,e_m_names_in,a_Qbe,n_Qbe,F_Qbe⟩:=h_m_names_in
 obtain ⟨f_m_without,e_m_without,a_Qbi,n_Qbi,F_Qbi⟩:=h_m_without
 have e:=hfa.symm.trans (W.mg_of X G a_law)
 cases e
 have Y0:XAt K C0:=qb1 X0 zW q0 w16 w17
 have Y1:XAt K C1:=qb1 X1 zW q1 w16 w17
 have Y2:XAt K C2:=qb1 X2 zW q2 w16 w17
 have Y3:XAt K C3:=qb1 X3 zW q3 w16 w17
 have Y4:XAt K C4:=qb1 X4 zW q4 w16 w17
 have Y5:XAt K C5:=qb1 X5 zW q5 w16 w17
 have Y6:XAt K C6:=qb1 X6 zW q6 w16 w17
 have Y7:XAt K C7:=qb1 X7 qdW q7 w16 w17
 obtain ⟨kt1,kt2,kt3,kt4⟩:=kits nd (fun i hi=>match i,hi with | 0,_=>X0 | 1,_=>X1 | 2,_=>X2 | 3,_=>X3 | 4,_=>X4 | 5,_=>X5 | 6,_=>X6 | n + 7,h=>absurd h (by simp only [List.length_cons,List.length_nil];omega)) X7
 have wcl:Cls K Cw:=⟨w1,w2,w3,w4⟩
 have T:Txt K mg (fun i=>([C0,C1,C2,C3,C4,C5,C6]:List Addr).getD i C7) Cw:=⟨W.mg_none_of X G z0,
  W.mg_none_of X G z1,
  W.mg_none_of X G z2,
  W.mg_none_of X G z3,
  W.mg_none_of X G z4,
  W.mg_none_of X G z5,
  W.mg_none_of X G z6,
  W.mg_none_of X G z7,
  W.mg_none_of X G z8,
  W.mg_none_of X G z9,
  W.mg_none_of X G z10,
  W.mg_none_of X G z11,
  W.mg_none_of X G z12,
  ⟨ty0,W.mg_of X G u0⟩,
  ⟨ty1,W.mg_of X G u1⟩,
  ⟨ty2,W.mg_of X G u2⟩,
  W.mg_of X G C0_,
  W.mg_of X G C1_,
  W.mg_of X G C2_,
  W.mg_of X G C3_,
  W.mg_of X G C4_,
  W.mg_of X G C5_,
  W.mg_of X G C6_,
  W.mg_of X G C7_,
  ⟨v1,v3,v4⟩,
  fun i hi=>match i,hi with | 0,_=>Y0 | 1,_=>Y1 | 2,_=>Y2 | 3,_=>Y3 | 4,_=>Y4 | 5,_=>Y5 | 6,_=>Y6 | 7,_=>Y7 | n + 8,h=>absurd h (by omega),
  fun i hi=>match i,hi with | 0,_=>y0 | 1,_=>y1 | 2,_=>y2 | 3,_=>y3 | 4,_=>y4 | 5,_=>y5 | 6,_=>y6 | n + 7,h=>absurd h (by omega),
  kt1,
  kt3,
  fun i hi=>match i,hi with | 0,_=>mo0 | 1,_=>mo1 | 2,_=>mo2 | 3,_=>mo3 | 4,_=>mo4 | 5,_=>mo5 | 6,_=>mo6 | n + 7,h=>absurd h (by omega),
  wcl,
  w7,
  w8,
  w9,
  W.mg_of X G Cw_,
  W.mg_none_of X G zsum,
  W.mg_none_of X G zrep,
  Option.isSome_iff_exists.mp smo⟩
 obtain ⟨oc,od,kV,doc,pm,an,cd,ct,sl,rfl,lk,hc⟩:=F_Qav.ex
 refine ⟨W.fnOf "law" "law" (qm qaD) (qj qaD) (qe qaD) .none kV doc pm an cd ct,fun s v=>.of_eq rfl,fun base _ _=>?_⟩
 have d_once:CMethOk l.prog w K mg base CX0 1 C7 "OnceError" "__init__" ["self", "text"] (qak K):=fc_mk X G C7_ r1 a_i7 r3 F_i7 (ok_once F_i7 T)
 have d0:XMakeOk l.prog w K mg base 2 C0 "NoName" ["self", "found"] (spX C0 (qaE 0)):=qcx X G C0_ Y0 q0 a_i0 n_i0 F_i0 (ok_NoName F_i0 T d_once)
 have d1:XMakeOk l.prog w K mg base 2 C1 "Twice" ["self", "name"] (spX C1 (qaE 1)):=qcx X G C1_ Y1 q1 a_i1 n_i1 F_i1 (ok_Twice F_i1 T d_once)
 have d2:XMakeOk l.prog w K mg base 2 C2 "NoPlace" ["self", "found"] (spX C2 (qaE 2)):=qcx X G C2_ Y2 q2 a_i2 n_i2 F_i2 (ok_NoPlace F_i2 T d_once)
 have d3:XMakeOk l.prog w K mg base 2 C3 "NoTie" ["self", "found"] (spX C3 (qaE 3)):=qcx X G C3_ Y3 q3 a_i3 n_i3 F_i3 (ok_NoTie F_i3 T d_once)
 have d4:XMakeOk l.prog w K mg base 2 C4 "TooMany" ["self", "many"] (spX C4 (qaE 4)):=qcx X G C4_ Y4 q4 a_i4 n_i4 F_i4 (ok_TooMany F_i4 T d_once)
 have d5:XMakeOk l.prog w K mg base 2 C5 "NoPairs" ["self", "found"] (spX C5 (qaE 5)):=qcx X G C5_ Y5 q5 a_i5 n_i5 F_i5 (ok_NoPairs F_i5 T d_once)
 have d6:XMakeOk l.prog w K mg base 2 C6 "NoBar" ["self", "found"] (spX C6 (qaE 6)):=qcx X G C6_ Y6 q6 a_i6 n_i6 F_i6 (ok_NoBar F_i6 T d_once)
 have fg:=@fg_mk l.prog w K mg base h
 have fm:=@fm_mk l.prog w K mg base
 have fw:=@fw_mk l.prog w K mg base h
 have d_name:=fg X G a_is_name F_Qad (ok_name F_Qad T)
 have d_place:=fg X G a_is_place F_Qae (ok_place F_Qae d_name)
 have d_two:=fg X G a_are_two_places F_Qaa (ok_two F_Qaa T d_place)
 have d_bit:=fg X G a_has_bit F_Qac (ok_bit F_Qac)
 have d_nums:=fg X G a_numbers_of F_Qax (ok_nums F_Qax T d_name d0 d1 d4)
 have d_near:=fg X G a_near_of F_Qaw (ok_near F_Qaw T d_two d_bit d3 d4)
 have o_web:=ok_web F_iw T d_nums d_near
 have q_web:MakeOk l.prog w K mg base CX0 5 Cw "Web" ["self", "names", "ties"] (fun vs H Q _=>qdr (fun i=>([C0,C1,C2,C3,C4,C5,C6]:List Addr).getD i C7) Cw vs H Q E0):=fw X G Cw_ w5 w6 a_iw n_iw F_iw o_web.quiet
 have m_web:MakeOk l.prog w K mg base (CX1 l.prog w) 5 Cw "Web" ["self", "names", "ties"] (qdr (fun i=>([C0,C1,C2,C3,C4,C5,C6]:List Addr).getD i C7) Cw):=fw X G Cw_ w5 w6 a_iw n_iw F_iw o_web
 have m_has:=fm wcl a_Qbd n_Qbd F_Qbd (ok_has F_Qbd T d_place)
 have o_num:=ok_num F_Qbf T m_has d2
 have m_num:=fm wcl a_Qbf n_Qbf F_Qbf o_num
 have o_bb:=ok_bb F_Qbc T m_num
 have m_bb:=fm wcl a_Qbc n_Qbc F_Qbc o_bb
 have m_nin:=fm wcl a_Qbe n_Qbe F_Qbe (ok_nin F_Qbe T d_bit)
 have o_bs:=ok_bs F_Qbb T m_bb m_nin
 have q_bs:=fm wcl a_Qbb n_Qbb F_Qbb o_bs.quiet
 have d_pc:=fg X G a_piece_around F_Qaz (ok_pc F_Qaz T d_bit)
 have m_pcs:=fm wcl a_Qbg n_Qbg F_Qbg (ok_pcs F_Qbg T d_bit d_pc m_nin)
 have m_ts:=fm wcl a_Qbh n_Qbh F_Qbh (ok_ts F_Qbh T q_bs)
 have o_wout:=ok_wout F_Qbi T m_num m_ts m_web d2
 have m_wout:=fm wcl a_Qbi n_Qbi F_Qbi o_wout
 have q_wout:=fm wcl a_Qbi n_Qbi F_Qbi o_wout.quiet
 have d_ul:=fg X G a_are_unlike_places F_Qab (ok_ul F_Qab T m_has)
 have d_pb:=fg X G a_pieces_beside F_Qba (ok_pbq F_Qba T d_ul q_wout m_pcs)
 have d_pbX:=fg X G a_pieces_beside F_Qba (ok_pbX F_Qba T d6 d_ul m_wout m_pcs)
 have d_od:=fg X G a_odd_pieces F_Qay (ok_odq F_Qay T d_pb)
 have d_odX:=fg X G a_odd_pieces F_Qay (ok_odX F_Qay T d_pbX)
 have d_lk:=fg X G a_lack_of F_Qau (ok_lkq F_Qau T d_od)
 have d_lkX:=fg X G a_lack_of F_Qau (ok_lkX F_Qau T d_odX)
 have d_as:=fg X G a_l_asked F_Qaf (ok_aq F_Qaf T d_pb d_od d_lk)
 have d_asX:=fg X G a_l_asked F_Qaf (ok_aX F_Qaf T d_pbX d_odX d_lkX)
 have d_tk:=fg X G a_l_take F_Qas (ok_tkp F_Qas T)
 have d_rg:=fg X G a_l_right F_Qap (ok_rgJ F_Qap T d_as d_lk)
 have d_rf:=fg X G a_l_refused F_Qao (ok_rfJ F_Qao T mr6 d_asX)
 exact ok_lawJ F_Qav T (fg X G a_l_cell F_Qai (ok_ce F_Qai T)) (fg X G a_l_purse F_Qan (ok_pu F_Qan T)) d_tk (fg X G a_l_many F_Qak (ok_my F_Qak T d_tk)) (fg X G a_l_names F_Qal (ok_nmJ F_Qal T d_tk)) (fg X G a_l_ties F_Qat (ok_tsJ F_Qat T d_tk)) (fg X G a_l_made F_Qaj (ok_mdJ F_Qaj T q_web)) (fg X G a_l_bits F_Qah (ok_btJ F_Qah T)) (fg X G a_l_some F_Qar (ok_smJ F_Qar T d_tk)) (fg X G a_l_pieces F_Qam (ok_pjJ F_Qam T)) (fg X G a_l_room F_Qaq (ok_rmJ F_Qaq T)) d_rg d_rf (fg X G a_l_bad F_Qag (ok_bdJ F_Qag T d_tk))
theorem walk {l:PySem.W.OpenLaw} {q:Program} {loose:List Str} {XP:(Str→Option Value)→Heap→Prop} {YP:World→Heap→Prop} {d:DefRec} {K:Params→PySem.W.Frag} (hn:l.most=some 63) (hdf:d.params.defaults=[])
  (hY:∀ (w:World) (h:Heap),YP w h→(K w.params).In h)
  (F:∀ (w:World) (mg:Str→Option Value) (fa:Addr) (h:Heap),(K w.params).In h→h.Ns mainGlobals mg→mg d.name=some (.ref fa) →
   ∃ fd:FuncData,(∀ (s:Shared) (u:Value),BindsTo s fd ⟨[u],[]⟩ [("_law_script",u)])∧∀ base:Heap,(K w.params).In base→base.Ns mainGlobals mg→FnOk l.prog w (K w.params) mg base CX0 14 fa fd ["_law_script"] (qel (K w.params))) :
  PySem.W.WalkO q loose XP YP l.row.toRowW d [] (fun f vs=>PySem.call f vs):=
 L2.walk_of (n:=63) (k:=14) (x:="_law_script") (CX:=fun _=>CX0) (sp:=fun w=>qel (K w.params)) hn (by decide) hdf ⟨rfl,by decide,by decide,rfl⟩ hY F (fun _ _ a ns hl _ hS=>⟨a,ns,rfl,hS,hl,fun _=>rfl⟩) fun _ _ _ _ _ z=>z
end K41
namespace Hd
open PySem PySem.W PySem.Calls PyProof.Rows
def qfW (tb:String→Option Builtin) (p:Program) (w:World) (n₀:Nat) (ann:Option Value):Nat→SharedT→Thread→Option SharedT
 | 0,_,_=>none
 | n + 1,s,t=>match through t with
  | true=>some s
  | false=>match stepOk n₀ ann t with
   | false=>none
   | true=>match stepT (denote tb) p w s t with
    | some (s',t')=>qfW tb p w n₀ ann n s' t'
    | none=>none
theorem qeQ {tb:String→Option Builtin} {p:Program} {w:World} {n₀:Nat} {ann:Option Value}:∀ {n:Nat} {s s':SharedT} {t:Thread},qfW tb p w n₀ ann n s t=some s'→topRun tb p w n₀ ann n s.abs t=some s'.abs
 | 0,_,_,_,h=>by cases h
 | n + 1,s,s',t,h=>by
  unfold qfW at h
  unfold topRun
  cases he:through t with
  | true=>rw [he] at h;cases h;rfl
  | false =>
   rw [he] at h
   cases hk:stepOk n₀ ann t with
   | false=>rw [hk] at h;cases h
   | true =>
    rw [hk] at h
    cases hs:stepT (denote tb) p w s t with
    | none=>rw [hs] at h;cases h
    | some r=>obtain ⟨s₂,t₂⟩:=r;rw [hs] at h;rw [stepT_spec hs];exact qeQ h
def qcK:List Obj→Nat→BT→BT
 | [],_,t=>t
 | o::r,n,t=>qcK r (n + 1) (t.ins n o)
noncomputable def qe9 (P:Params) (os:OsState):SharedT:=⟨qcK (boot_heap P).objs.toList 0 .nil,(boot_heap P).objs.size,(boot_heap P).life,Array.mk [],boot_drawn,boot_toks,os⟩
theorem boot_abs (P:Params):absHeap (qcK (boot_heap P).objs.toList 0 .nil) (boot_heap P).objs.size (boot_heap P).life=boot_heap P:=by kernel_rfl
noncomputable def lookT (p q:Program) (Xt:Shared→Bool) {α:Type} (Yf:Shared→α) (N:Nat) (w:World) (os:OsState):=match (boot_heap w.params).isNs mainGlobals&&(Array.mk []:Array GenState).size==0 with
 | true=>(qfW treeTable p w (boot_heap w.params).objs.size ((boot_heap w.params).nsMap mainGlobals "__annotations__") N (qe9 w.params os) (topStub p)).bind fun s=>match staticsOk (importedModules p.main.body) (boot_heap w.params) s.abs.heap&&namesBound p s.abs.heap&&gensDone s.abs&&laidKept (boot_heap w.params) s.abs.heap with
   | true=>some (openSeen q [] (importedModules p.main.body) Xt true s.abs,Yf s.abs)
   | false=>none
 | false=>none
theorem left_of {p q:Program} {Xt:Shared→Bool} {α:Type} {Yf:Shared→α} {Ya:World→α} {N:Nat} (e:opening p=plainProg p.main.scope.names) (hN:Nat.ble 600 N=true) (f:∀ s,fenceModules? p s=some s)
  (h:∀ w os,lookT p q Xt Yf N w os=some (openGood q [],Ya w)):LeftO p q [] Xt Yf Ya N:=fun w=>by
 obtain ⟨⟨h0,gs,d,k,os⟩,e1,e2⟩:=Option.map_eq_some_iff.mp (boot_open e hN f w)
 obtain ⟨rfl,rfl,rfl,rfl⟩:h0=boot_heap w.params∧gs=Array.mk []∧d=boot_drawn∧k=boot_toks:=by simpa using e2
 have hh:=h w os
 unfold lookT at hh
 unfold openEnds
 rw [e1]
 show (topFrom treeTable p w N _).map _=_
 unfold topFrom
 dsimp only
 split at hh
 ·rename_i z
  rw [z]
  obtain ⟨s,hs,q2⟩:=Option.bind_eq_some_iff.mp hh
  have r:=qeQ hs
  have ba:(qe9 w.params os).abs=⟨boot_heap w.params,Array.mk [],boot_drawn,boot_toks,os⟩:=by
   unfold qe9 SharedT.abs
   dsimp only
   rw [boot_abs]
  rw [ba] at r
  dsimp only
  rw [r]
  split at q2
  ·rename_i z2
   show ((match staticsOk (importedModules p.main.body) (boot_heap w.params) s.abs.heap&&namesBound p s.abs.heap&&gensDone s.abs&&laidKept (boot_heap w.params) s.abs.heap with | true=>some s.abs | false=>none):Option Shared).map _=_
   rw [z2]
   exact q2
  ·cases q2
 ·cases hh
end Hd
namespace K41
open PySem L2 PyProof.Rows PySem.W
abbrev NN:Nat:=20000
noncomputable def Q:Program:=view PySem.Challenge.pw_onceroad_k41_pieces_beside_bars [0,2,3,4,5,6,7,8,9,11,13,14,15,17,18,20,21,22,23,24,25,26,27,28,30,31,32,33,34,35,36,37,38,39,40,41,42,43,44,45]
def en (P:Params) (k:Str) (t:Tok) (v:Value):DictEntry:=⟨PyData.keyHash P k,.str k t,v⟩
noncomputable def Kf (P:Params):Frag:=
 (nat_lit 1,(⟨(.type "dict"),none,.dict #[en P "builtins" 162 (.ref 4),en P "__main__" 163 (.ref 5)] 2,#[]⟩:Obj)) ::
 (nat_lit 2,(⟨.none,none,.dict #[] 0,#[]⟩:Obj)) ::
 (nat_lit 3,(⟨(.type "dict"),none,.dict #[en P "__name__" 165 (.str "law_onceroad_k41_pieces_beside_bars" 668),en P "__doc__" 166 .none,en P "__package__" 167 .none,en P "__loader__" 168 (.builtin "__main__.__loader__#opaque"),en P "__spec__" 169 .none,en P "__annotations__" 170 (.ref 6),en P "__builtins__" 171 (.ref 4),en P "__file__" 173 (.str "/claim/cut.py" 172),en P "__cached__" 174 .none,en P "_wall" 193 (.ref 21),en P "OnceError" 221 (.ref 38),en P "NoName" 246 (.ref 58),en P "Twice" 271 (.ref 77),en P "NoPlace" 296 (.ref 96),en P "NoTie" 321 (.ref 115),en P "TooMany" 346 (.ref 134),en P "NoPairs" 371 (.ref 153),en P "NoBar" 396 (.ref 172),en P "are_unlike_places" 408 (.ref 181),en P "pieces_beside" 418 (.ref 188),en P "odd_pieces" 424 (.ref 193),en P "lack_of" 432 (.ref 200),en P "LONGEST_NAME" 436 (.int 6 435),en P "is_name" 442 (.ref 205),en P "MOST_PLACES" 446 (.int 14 445),en P "MOST_TIES" 448 (.int 30 447),en P "Web" 609 (.ref 330),en P "has_bit" 617 (.ref 341),en P "is_place" 625 (.ref 348),en P "are_two_places" 634 (.ref 355),en P "numbers_of" 643 (.ref 362),en P "near_of" 655 (.ref 369),en P "piece_around" 667 (.ref 376),en P "_law_cell" 677 (.ref 383),en P "_law_purse" 684 (.ref 390),en P "_law_take" 694 (.ref 397),en P "_law_names" 700 (.ref 402),en P "_law_ties" 714 (.ref 409),en P "_law_many" 722 (.ref 416),en P "_law_made" 733 (.ref 423),en P "_law_bits" 744 (.ref 430),en P "_law_pieces" 750 (.ref 435),en P "_law_some" 756 (.ref 440),en P "_law_room" 762 (.ref 445),en P "_law_asked" 771 (.ref 452),en P "_law_refused" 782 (.ref 459),en P "_law_bad" 794 (.ref 466),en P "_law_right" 800 (.ref 471),en P "law" 806 (.ref 476)] 49,#[]⟩:Obj)) ::
 (nat_lit 34,(⟨(.type "code"),none,.fields #[(.str "__init__" 208),(.str "OnceError.__init__" 209),(.str "/claim/cut.py" 210),(.int 7 0),(.int 2 0),(.int 0 0),(.int 0 0),(.int 3 0),(.ref 29),(.bool true),(.int 181 0),(.ref 30),.none,(.ref 31),(.ref 32),(.ref 33),(.int 213 0),(.int 7 0),(.str "/claim/cut.py" 214)],#[]⟩:Obj)) ::
 (nat_lit 35,(⟨(.type "function"),none,.func (fnOf "__init__" "OnceError.__init__" (qm qL) (qj qL) (qe qL) .none .none .none (.str "onceroad.errors" 194) none (.ref 34) .none),#[]⟩:Obj)) ::
 (nat_lit 37,(⟨(.type "dict"),none,.dict #[en P "__module__" 203 (.str "onceroad.errors" 194),en P "__firstlineno__" 207 (.int 5 206),en P "__init__" 215 (.ref 35),en P "__static_attributes__" 216 (.ref 36),en P "__weakref__" 218 (.ref 39),en P "__doc__" 219 .none] 3,#[]⟩:Obj)) ::
 (nat_lit 38,(⟨(.type "type"),none,.cls { name:="OnceError",bases:=[(.type "ValueError")],mro:=[(.ref 38),(.type "ValueError"),(.type "Exception"),(.type "BaseException"),(.type "object")],ns:=37,qualname:="OnceError",hasDict:=true,slotNames:=[],subclasses:=[(.ref 58),(.ref 77),(.ref 96),(.ref 115),(.ref 134),(.ref 153),(.ref 172)],abstract:=false,collection:=none,hasDel:=false },#[(some (.ref 22)),none,(some (.str "OnceError" 196)),(some (.str "OnceError" 204)),(some (.builtin "ValueError.__new__")),(some (.bool true))]⟩:Obj)) ::
 (nat_lit 54,(⟨(.type "code"),none,.fields #[(.str "__init__" 234),(.str "NoName.__init__" 235),(.str "/claim/cut.py" 236),(.int 11 0),(.int 2 0),(.int 0 0),(.int 0 0),(.int 3 0),(.ref 49),(.bool true),(.int 181 0),(.ref 50),.none,(.ref 51),(.ref 52),(.ref 53),(.int 239 0),(.int 11 0),(.str "/claim/cut.py" 240)],#[]⟩:Obj)) ::
 (nat_lit 55,(⟨(.type "function"),none,.func (fnOf "__init__" "NoName.__init__" (qm jl) (qj jl) (qe jl) .none .none .none (.str "onceroad.errors" 194) none (.ref 54) .none),#[]⟩:Obj)) ::
 (nat_lit 57,(⟨(.type "dict"),none,.dict #[en P "__module__" 229 (.str "onceroad.errors" 194),en P "__firstlineno__" 233 (.int 9 232),en P "__init__" 241 (.ref 55),en P "__static_attributes__" 243 (.ref 56),en P "__doc__" 244 .none] 2,#[]⟩:Obj)) ::
 (nat_lit 58,(⟨(.type "type"),none,.cls { name:="NoName",bases:=[(.ref 38)],mro:=[(.ref 58),(.ref 38),(.type "ValueError"),(.type "Exception"),(.type "BaseException"),(.type "object")],ns:=57,qualname:="NoName",hasDict:=true,slotNames:=[],subclasses:=[],abstract:=false,collection:=none,hasDel:=false },#[(some (.ref 42)),none,(some (.str "NoName" 222)),(some (.str "NoName" 230)),(some (.builtin "ValueError.__new__")),(some (.bool true))]⟩:Obj)) ::
 (nat_lit 73,(⟨(.type "code"),none,.fields #[(.str "__init__" 259),(.str "Twice.__init__" 260),(.str "/claim/cut.py" 261),(.int 16 0),(.int 2 0),(.int 0 0),(.int 0 0),(.int 3 0),(.ref 68),(.bool true),(.int 181 0),(.ref 69),.none,(.ref 70),(.ref 71),(.ref 72),(.int 264 0),(.int 16 0),(.str "/claim/cut.py" 265)],#[]⟩:Obj)) ::
 (nat_lit 74,(⟨(.type "function"),none,.func (fnOf "__init__" "Twice.__init__" (qm ju) (qj ju) (qe ju) .none .none .none (.str "onceroad.errors" 194) none (.ref 73) .none),#[]⟩:Obj)) ::
 (nat_lit 76,(⟨(.type "dict"),none,.dict #[en P "__module__" 254 (.str "onceroad.errors" 194),en P "__firstlineno__" 258 (.int 14 257),en P "__init__" 266 (.ref 74),en P "__static_attributes__" 268 (.ref 75),en P "__doc__" 269 .none] 2,#[]⟩:Obj)) ::
 (nat_lit 77,(⟨(.type "type"),none,.cls { name:="Twice",bases:=[(.ref 38)],mro:=[(.ref 77),(.ref 38),(.type "ValueError"),(.type "Exception"),(.type "BaseException"),(.type "object")],ns:=76,qualname:="Twice",hasDict:=true,slotNames:=[],subclasses:=[],abstract:=false,collection:=none,hasDel:=false },#[(some (.ref 61)),none,(some (.str "Twice" 247)),(some (.str "Twice" 255)),(some (.builtin "ValueError.__new__")),(some (.bool true))]⟩:Obj)) ::
 (nat_lit 92,(⟨(.type "code"),none,.fields #[(.str "__init__" 284),(.str "NoPlace.__init__" 285),(.str "/claim/cut.py" 286),(.int 21 0),(.int 2 0),(.int 0 0),(.int 0 0),(.int 3 0),(.ref 87),(.bool true),(.int 181 0),(.ref 88),.none,(.ref 89),(.ref 90),(.ref 91),(.int 289 0),(.int 21 0),(.str "/claim/cut.py" 290)],#[]⟩:Obj)) ::
 (nat_lit 93,(⟨(.type "function"),none,.func (fnOf "__init__" "NoPlace.__init__" (qm q9) (qj q9) (qe q9) .none .none .none (.str "onceroad.errors" 194) none (.ref 92) .none),#[]⟩:Obj)) ::
 (nat_lit 95,(⟨(.type "dict"),none,.dict #[en P "__module__" 279 (.str "onceroad.errors" 194),en P "__firstlineno__" 283 (.int 19 282),en P "__init__" 291 (.ref 93),en P "__static_attributes__" 293 (.ref 94),en P "__doc__" 294 .none] 2,#[]⟩:Obj)) ::
 (nat_lit 96,(⟨(.type "type"),none,.cls { name:="NoPlace",bases:=[(.ref 38)],mro:=[(.ref 96),(.ref 38),(.type "ValueError"),(.type "Exception"),(.type "BaseException"),(.type "object")],ns:=95,qualname:="NoPlace",hasDict:=true,slotNames:=[],subclasses:=[],abstract:=false,collection:=none,hasDel:=false },#[(some (.ref 80)),none,(some (.str "NoPlace" 272)),(some (.str "NoPlace" 280)),(some (.builtin "ValueError.__new__")),(some (.bool true))]⟩:Obj)) ::
 (nat_lit 111,(⟨(.type "code"),none,.fields #[(.str "__init__" 309),(.str "NoTie.__init__" 310),(.str "/claim/cut.py" 311),(.int 26 0),(.int 2 0),(.int 0 0),(.int 0 0),(.int 3 0),(.ref 106),(.bool true),(.int 181 0),(.ref 107),.none,(.ref 108),(.ref 109),(.ref 110),(.int 314 0),(.int 26 0),(.str "/claim/cut.py" 315)],#[]⟩:Obj)) ::
 (nat_lit 112,(⟨(.type "function"),none,.func (fnOf "__init__" "NoTie.__init__" (qm jv) (qj jv) (qe jv) .none .none .none (.str "onceroad.errors" 194) none (.ref 111) .none),#[]⟩:Obj)) ::
 (nat_lit 114,(⟨(.type "dict"),none,.dict #[en P "__module__" 304 (.str "onceroad.errors" 194),en P "__firstlineno__" 308 (.int 24 307),en P "__init__" 316 (.ref 112),en P "__static_attributes__" 318 (.ref 113),en P "__doc__" 319 .none] 2,#[]⟩:Obj)) ::
 (nat_lit 115,(⟨(.type "type"),none,.cls { name:="NoTie",bases:=[(.ref 38)],mro:=[(.ref 115),(.ref 38),(.type "ValueError"),(.type "Exception"),(.type "BaseException"),(.type "object")],ns:=114,qualname:="NoTie",hasDict:=true,slotNames:=[],subclasses:=[],abstract:=false,collection:=none,hasDel:=false },#[(some (.ref 99)),none,(some (.str "NoTie" 297)),(some (.str "NoTie" 305)),(some (.builtin "ValueError.__new__")),(some (.bool true))]⟩:Obj)) ::
 (nat_lit 130,(⟨(.type "code"),none,.fields #[(.str "__init__" 334),(.str "TooMany.__init__" 335),(.str "/claim/cut.py" 336),(.int 31 0),(.int 2 0),(.int 0 0),(.int 0 0),(.int 3 0),(.ref 125),(.bool true),(.int 181 0),(.ref 126),.none,(.ref 127),(.ref 128),(.ref 129),(.int 339 0),(.int 31 0),(.str "/claim/cut.py" 340)],#[]⟩:Obj)) ::
 (nat_lit 131,(⟨(.type "function"),none,.func (fnOf "__init__" "TooMany.__init__" (qm jc) (qj jc) (qe jc) .none .none .none (.str "onceroad.errors" 194) none (.ref 130) .none),#[]⟩:Obj)) ::
 (nat_lit 133,(⟨(.type "dict"),none,.dict #[en P "__module__" 329 (.str "onceroad.errors" 194),en P "__firstlineno__" 333 (.int 29 332),en P "__init__" 341 (.ref 131),en P "__static_attributes__" 343 (.ref 132),en P "__doc__" 344 .none] 2,#[]⟩:Obj)) ::
 (nat_lit 134,(⟨(.type "type"),none,.cls { name:="TooMany",bases:=[(.ref 38)],mro:=[(.ref 134),(.ref 38),(.type "ValueError"),(.type "Exception"),(.type "BaseException"),(.type "object")],ns:=133,qualname:="TooMany",hasDict:=true,slotNames:=[],subclasses:=[],abstract:=false,collection:=none,hasDel:=false },#[(some (.ref 118)),none,(some (.str "TooMany" 322)),(some (.str "TooMany" 330)),(some (.builtin "ValueError.__new__")),(some (.bool true))]⟩:Obj)) ::
 (nat_lit 149,(⟨(.type "code"),none,.fields #[(.str "__init__" 359),(.str "NoPairs.__init__" 360),(.str "/claim/cut.py" 361),(.int 36 0),(.int 2 0),(.int 0 0),(.int 0 0),(.int 3 0),(.ref 144),(.bool true),(.int 181 0),(.ref 145),.none,(.ref 146),(.ref 147),(.ref 148),(.int 364 0),(.int 36 0),(.str "/claim/cut.py" 365)],#[]⟩:Obj)) ::
 (nat_lit 150,(⟨(.type "function"),none,.func (fnOf "__init__" "NoPairs.__init__" (qm jd) (qj jd) (qe jd) .none .none .none (.str "onceroad.errors" 194) none (.ref 149) .none),#[]⟩:Obj)) ::
 (nat_lit 152,(⟨(.type "dict"),none,.dict #[en P "__module__" 354 (.str "onceroad.errors" 194),en P "__firstlineno__" 358 (.int 34 357),en P "__init__" 366 (.ref 150),en P "__static_attributes__" 368 (.ref 151),en P "__doc__" 369 .none] 2,#[]⟩:Obj)) ::
 (nat_lit 153,(⟨(.type "type"),none,.cls { name:="NoPairs",bases:=[(.ref 38)],mro:=[(.ref 153),(.ref 38),(.type "ValueError"),(.type "Exception"),(.type "BaseException"),(.type "object")],ns:=152,qualname:="NoPairs",hasDict:=true,slotNames:=[],subclasses:=[],abstract:=false,collection:=none,hasDel:=false },#[(some (.ref 137)),none,(some (.str "NoPairs" 347)),(some (.str "NoPairs" 355)),(some (.builtin "ValueError.__new__")),(some (.bool true))]⟩:Obj)) ::
 (nat_lit 168,(⟨(.type "code"),none,.fields #[(.str "__init__" 384),(.str "NoBar.__init__" 385),(.str "/claim/cut.py" 386),(.int 41 0),(.int 2 0),(.int 0 0),(.int 0 0),(.int 3 0),(.ref 163),(.bool true),(.int 181 0),(.ref 164),.none,(.ref 165),(.ref 166),(.ref 167),(.int 389 0),(.int 41 0),(.str "/claim/cut.py" 390)],#[]⟩:Obj)) ::
 (nat_lit 169,(⟨(.type "function"),none,.func (fnOf "__init__" "NoBar.__init__" (qm jw) (qj jw) (qe jw) .none .none .none (.str "onceroad.errors" 194) none (.ref 168) .none),#[]⟩:Obj)) ::
 (nat_lit 171,(⟨(.type "dict"),none,.dict #[en P "__module__" 379 (.str "onceroad.errors" 194),en P "__firstlineno__" 383 (.int 39 382),en P "__init__" 391 (.ref 169),en P "__static_attributes__" 393 (.ref 170),en P "__doc__" 394 .none] 2,#[]⟩:Obj)) ::
 (nat_lit 172,(⟨(.type "type"),none,.cls { name:="NoBar",bases:=[(.ref 38)],mro:=[(.ref 172),(.ref 38),(.type "ValueError"),(.type "Exception"),(.type "BaseException"),(.type "object")],ns:=171,qualname:="NoBar",hasDict:=true,slotNames:=[],subclasses:=[],abstract:=false,collection:=none,hasDel:=false },#[(some (.ref 156)),none,(some (.str "NoBar" 372)),(some (.str "NoBar" 380)),(some (.builtin "ValueError.__new__")),(some (.bool true))]⟩:Obj)) ::
 (nat_lit 180,(⟨(.type "code"),none,.fields #[(.str "are_unlike_places" 399),(.str "are_unlike_places" 400),(.str "/claim/cut.py" 401),(.int 45 0),(.int 2 0),(.int 0 0),(.int 0 0),(.int 3 0),(.ref 175),(.bool true),(.int 181 0),(.ref 176),.none,(.ref 177),(.ref 178),(.ref 179),(.int 406 0),(.int 45 0),(.str "/claim/cut.py" 407)],#[]⟩:Obj)) ::
 (nat_lit 181,(⟨(.type "function"),none,.func (fnOf "are_unlike_places" "are_unlike_places" (qm qF) (qj qF) (qe qF) .none .none .none (.str "onceroad.rows" 397) none (.ref 180) .none),#[]⟩:Obj)) ::
 (nat_lit 187,(⟨(.type "code"),none,.fields #[(.str "pieces_beside" 411),(.str "pieces_beside" 412),(.str "/claim/cut.py" 413),(.int 55 0),(.int 2 0),(.int 0 0),(.int 0 0),(.int 3 0),(.ref 182),(.bool true),(.int 181 0),(.ref 183),.none,(.ref 184),(.ref 185),(.ref 186),(.int 416 0),(.int 55 0),(.str "/claim/cut.py" 417)],#[]⟩:Obj)) ::
 (nat_lit 188,(⟨(.type "function"),none,.func (fnOf "pieces_beside" "pieces_beside" (qm qJ) (qj qJ) (qe qJ) .none .none .none (.str "onceroad.bars" 409) none (.ref 187) .none),#[]⟩:Obj)) ::
 (nat_lit 192,(⟨(.type "code"),none,.fields #[(.str "odd_pieces" 419),(.str "odd_pieces" 420),(.str "/claim/cut.py" 421),(.int 59 0),(.int 2 0),(.int 0 0),(.int 0 0),(.int 3 0),(.ref 189),(.bool true),(.int 181 0),(.ref 190),.none,.none,.none,(.ref 191),(.int 422 0),(.int 59 0),(.str "/claim/cut.py" 423)],#[]⟩:Obj)) ::
 (nat_lit 193,(⟨(.type "function"),none,.func (fnOf "odd_pieces" "odd_pieces" (qm qP) (qj qP) (qe qP) .none .none .none (.str "onceroad.bars" 409) none (.ref 192) .none),#[]⟩:Obj)) ::
 (nat_lit 199,(⟨(.type "code"),none,.fields #[(.str "lack_of" 425),(.str "lack_of" 426),(.str "/claim/cut.py" 427),(.int 61 0),(.int 2 0),(.int 0 0),(.int 0 0),(.int 3 0),(.ref 194),(.bool true),(.int 181 0),(.ref 195),.none,(.ref 196),(.ref 197),(.ref 198),(.int 430 0),(.int 61 0),(.str "/claim/cut.py" 431)],#[]⟩:Obj)) ::
 (nat_lit 200,(⟨(.type "function"),none,.func (fnOf "lack_of" "lack_of" (qm j8) (qj j8) (qe j8) .none .none .none (.str "onceroad.bars" 409) none (.ref 199) .none),#[]⟩:Obj)) ::
 (nat_lit 204,(⟨(.type "code"),none,.fields #[(.str "is_name" 437),(.str "is_name" 438),(.str "/claim/cut.py" 439),(.int 65 0),(.int 1 0),(.int 0 0),(.int 0 0),(.int 3 0),(.ref 201),(.bool true),(.int 181 0),(.ref 202),.none,.none,.none,(.ref 203),(.int 440 0),(.int 65 0),(.str "/claim/cut.py" 441)],#[]⟩:Obj)) ::
 (nat_lit 205,(⟨(.type "function"),none,.func (fnOf "is_name" "is_name" (qm j5) (qj j5) (qe j5) .none .none .none (.str "onceroad.names" 433) none (.ref 204) .none),#[]⟩:Obj)) ::
 (nat_lit 218,(⟨(.type "code"),none,.fields #[(.str "__init__" 461),(.str "Web.__init__" 462),(.str "/claim/cut.py" 463),(.int 74 0),(.int 3 0),(.int 0 0),(.int 0 0),(.int 3 0),(.ref 213),(.bool true),(.int 181 0),(.ref 214),.none,(.ref 215),(.ref 216),(.ref 217),(.int 467 0),(.int 74 0),(.str "/claim/cut.py" 468)],#[]⟩:Obj)) ::
 (nat_lit 219,(⟨(.type "function"),none,.func (fnOf "__init__" "Web.__init__" (qm jX) (qj jX) (qe jX) .none .none .none (.str "onceroad.webs" 443) none (.ref 218) .none),#[]⟩:Obj)) ::
 (nat_lit 232,(⟨(.type "code"),none,.fields #[(.str "ties" 477),(.str "Web.ties" 478),(.str "/claim/cut.py" 479),(.int 82 0),(.int 1 0),(.int 0 0),(.int 0 0),(.int 3 0),(.ref 227),(.bool true),(.int 181 0),(.ref 228),.none,(.ref 229),(.ref 230),(.ref 231),(.int 484 0),(.int 82 0),(.str "/claim/cut.py" 485)],#[]⟩:Obj)) ::
 (nat_lit 233,(⟨(.type "function"),none,.func (fnOf "ties" "Web.ties" (qm jZ) (qj jZ) (qe jZ) .none .none .none (.str "onceroad.webs" 443) none (.ref 232) .none),#[]⟩:Obj)) ::
 (nat_lit 246,(⟨(.type "code"),none,.fields #[(.str "has_place" 494),(.str "Web.has_place" 495),(.str "/claim/cut.py" 496),(.int 93 0),(.int 2 0),(.int 0 0),(.int 0 0),(.int 3 0),(.ref 241),(.bool true),(.int 181 0),(.ref 242),.none,(.ref 243),(.ref 244),(.ref 245),(.int 499 0),(.int 93 0),(.str "/claim/cut.py" 500)],#[]⟩:Obj)) ::
 (nat_lit 247,(⟨(.type "function"),none,.func (fnOf "has_place" "Web.has_place" (qm qV) (qj qV) (qe qV) .none .none .none (.str "onceroad.webs" 443) none (.ref 246) .none),#[]⟩:Obj)) ::
 (nat_lit 260,(⟨(.type "code"),none,.fields #[(.str "number_of" 510),(.str "Web.number_of" 511),(.str "/claim/cut.py" 512),(.int 99 0),(.int 2 0),(.int 0 0),(.int 0 0),(.int 3 0),(.ref 255),(.bool true),(.int 181 0),(.ref 256),.none,(.ref 257),(.ref 258),(.ref 259),(.int 515 0),(.int 99 0),(.str "/claim/cut.py" 516)],#[]⟩:Obj)) ::
 (nat_lit 261,(⟨(.type "function"),none,.func (fnOf "number_of" "Web.number_of" (qm qW) (qj qW) (qe qW) .none .none .none (.str "onceroad.webs" 443) none (.ref 260) .none),#[]⟩:Obj)) ::
 (nat_lit 267,(⟨(.type "code"),none,.fields #[(.str "beside" 518),(.str "Web.beside" 519),(.str "/claim/cut.py" 520),(.int 104 0),(.int 2 0),(.int 0 0),(.int 0 0),(.int 3 0),(.ref 262),(.bool true),(.int 181 0),(.ref 263),.none,(.ref 264),(.ref 265),(.ref 266),(.int 523 0),(.int 104 0),(.str "/claim/cut.py" 524)],#[]⟩:Obj)) ::
 (nat_lit 268,(⟨(.type "function"),none,.func (fnOf "beside" "Web.beside" (qm jy) (qj jy) (qe jy) .none .none .none (.str "onceroad.webs" 443) none (.ref 267) .none),#[]⟩:Obj)) ::
 (nat_lit 274,(⟨(.type "code"),none,.fields #[(.str "bits_beside" 526),(.str "Web.bits_beside" 527),(.str "/claim/cut.py" 528),(.int 107 0),(.int 2 0),(.int 0 0),(.int 0 0),(.int 3 0),(.ref 269),(.bool true),(.int 181 0),(.ref 270),.none,(.ref 271),(.ref 272),(.ref 273),(.int 531 0),(.int 107 0),(.str "/claim/cut.py" 532)],#[]⟩:Obj)) ::
 (nat_lit 275,(⟨(.type "function"),none,.func (fnOf "bits_beside" "Web.bits_beside" (qm qI) (qj qI) (qe qI) .none .none .none (.str "onceroad.webs" 443) none (.ref 274) .none),#[]⟩:Obj)) ::
 (nat_lit 288,(⟨(.type "code"),none,.fields #[(.str "pieces" 543),(.str "Web.pieces" 544),(.str "/claim/cut.py" 545),(.int 113 0),(.int 1 0),(.int 0 0),(.int 0 0),(.int 3 0),(.ref 283),(.bool true),(.int 181 0),(.ref 284),.none,(.ref 285),(.ref 286),(.ref 287),(.int 551 0),(.int 113 0),(.str "/claim/cut.py" 552)],#[]⟩:Obj)) ::
 (nat_lit 289,(⟨(.type "function"),none,.func (fnOf "pieces" "Web.pieces" (qm jz) (qj jz) (qe jz) .none .none .none (.str "onceroad.webs" 443) none (.ref 288) .none),#[]⟩:Obj)) ::
 (nat_lit 300,(⟨(.type "code"),none,.fields #[(.str "names_in" 561),(.str "Web.names_in" 562),(.str "/claim/cut.py" 563),(.int 126 0),(.int 2 0),(.int 0 0),(.int 0 0),(.int 3 0),(.ref 297),(.bool true),(.int 181 0),(.ref 298),.none,.none,.none,(.ref 299),(.int 564 0),(.int 126 0),(.str "/claim/cut.py" 565)],#[]⟩:Obj)) ::
 (nat_lit 301,(⟨(.type "function"),none,.func (fnOf "names_in" "Web.names_in" (qm qS) (qj qS) (qe qS) .none .none .none (.str "onceroad.webs" 443) none (.ref 300) .none),#[]⟩:Obj)) ::
 (nat_lit 305,(⟨(.type "code"),none,.fields #[(.str "without" 567),(.str "Web.without" 568),(.str "/claim/cut.py" 569),(.int 129 0),(.int 2 0),(.int 0 0),(.int 0 0),(.int 3 0),(.ref 302),(.bool true),(.int 181 0),(.ref 303),.none,.none,.none,(.ref 304),(.int 570 0),(.int 129 0),(.str "/claim/cut.py" 571)],#[]⟩:Obj)) ::
 (nat_lit 306,(⟨(.type "function"),none,.func (fnOf "without" "Web.without" (qm qO) (qj qO) (qe qO) .none .none .none (.str "onceroad.webs" 443) none (.ref 305) .none),#[]⟩:Obj)) ::
 (nat_lit 329,(⟨(.type "dict"),none,.dict #[en P "__module__" 456 (.str "onceroad.webs" 443),en P "__firstlineno__" 460 (.int 72 459),en P "__init__" 469 (.ref 219),en P "places" 476 (.ref 226),en P "ties" 486 (.ref 233),en P "how_many" 493 (.ref 240),en P "has_place" 501 (.ref 247),en P "has_tie" 509 (.ref 254),en P "number_of" 517 (.ref 261),en P "beside" 525 (.ref 268),en P "bits_beside" 533 (.ref 275),en P "tied" 542 (.ref 282),en P "pieces" 553 (.ref 289),en P "told" 560 (.ref 296),en P "names_in" 566 (.ref 301),en P "without" 572 (.ref 306),en P "with_place" 580 (.ref 313),en P "with_tie" 589 (.ref 320),en P "without_tie" 598 (.ref 327),en P "__static_attributes__" 602 (.ref 328),en P "__dict__" 604 (.ref 331),en P "__weakref__" 606 (.ref 332),en P "__doc__" 607 .none] 4,#[]⟩:Obj)) ::
 (nat_lit 330,(⟨(.type "type"),none,.cls { name:="Web",bases:=[(.type "object")],mro:=[(.ref 330),(.type "object")],ns:=329,qualname:="Web",hasDict:=true,slotNames:=[],subclasses:=[],abstract:=false,collection:=none,hasDel:=false },#[none,none,(some (.str "Web" 449)),(some (.str "Web" 457)),(some (.builtin "object.__new__")),(some (.bool true))]⟩:Obj)) ::
 (nat_lit 340,(⟨(.type "code"),none,.fields #[(.str "has_bit" 610),(.str "has_bit" 611),(.str "/claim/cut.py" 612),(.int 147 0),(.int 2 0),(.int 0 0),(.int 0 0),(.int 3 0),(.ref 335),(.bool true),(.int 181 0),(.ref 336),.none,(.ref 337),(.ref 338),(.ref 339),(.int 615 0),(.int 147 0),(.str "/claim/cut.py" 616)],#[]⟩:Obj)) ::
 (nat_lit 341,(⟨(.type "function"),none,.func (fnOf "has_bit" "has_bit" (qm zi) (qj zi) (qe zi) .none .none .none (.str "onceroad.webs" 443) none (.ref 340) .none),#[]⟩:Obj)) ::
 (nat_lit 347,(⟨(.type "code"),none,.fields #[(.str "is_place" 618),(.str "is_place" 619),(.str "/claim/cut.py" 620),(.int 149 0),(.int 2 0),(.int 0 0),(.int 0 0),(.int 3 0),(.ref 342),(.bool true),(.int 181 0),(.ref 343),.none,(.ref 344),(.ref 345),(.ref 346),(.int 623 0),(.int 149 0),(.str "/claim/cut.py" 624)],#[]⟩:Obj)) ::
 (nat_lit 348,(⟨(.type "function"),none,.func (fnOf "is_place" "is_place" (qm jW) (qj jW) (qe jW) .none .none .none (.str "onceroad.webs" 443) none (.ref 347) .none),#[]⟩:Obj)) ::
 (nat_lit 354,(⟨(.type "code"),none,.fields #[(.str "are_two_places" 626),(.str "are_two_places" 627),(.str "/claim/cut.py" 628),(.int 151 0),(.int 2 0),(.int 0 0),(.int 0 0),(.int 3 0),(.ref 349),(.bool true),(.int 181 0),(.ref 350),.none,(.ref 351),(.ref 352),(.ref 353),(.int 632 0),(.int 151 0),(.str "/claim/cut.py" 633)],#[]⟩:Obj)) ::
 (nat_lit 355,(⟨(.type "function"),none,.func (fnOf "are_two_places" "are_two_places" (qm qM) (qj qM) (qe qM) .none .none .none (.str "onceroad.webs" 443) none (.ref 354) .none),#[]⟩:Obj)) ::
 (nat_lit 361,(⟨(.type "code"),none,.fields #[(.str "numbers_of" 635),(.str "numbers_of" 636),(.str "/claim/cut.py" 637),(.int 156 0),(.int 1 0),(.int 0 0),(.int 0 0),(.int 3 0),(.ref 356),(.bool true),(.int 181 0),(.ref 357),.none,(.ref 358),(.ref 359),(.ref 360),(.int 641 0),(.int 156 0),(.str "/claim/cut.py" 642)],#[]⟩:Obj)) ::
 (nat_lit 362,(⟨(.type "function"),none,.func (fnOf "numbers_of" "numbers_of" (qm jx) (qj jx) (qe jx) .none .none .none (.str "onceroad.webs" 443) none (.ref 361) .none),#[]⟩:Obj)) ::
 (nat_lit 368,(⟨(.type "code"),none,.fields #[(.str "near_of" 644),(.str "near_of" 645),(.str "/claim/cut.py" 646),(.int 169 0),(.int 2 0),(.int 0 0),(.int 0 0),(.int 3 0),(.ref 363),(.bool true),(.int 181 0),(.ref 364),.none,(.ref 365),(.ref 366),(.ref 367),(.int 653 0),(.int 169 0),(.str "/claim/cut.py" 654)],#[]⟩:Obj)) ::
 (nat_lit 369,(⟨(.type "function"),none,.func (fnOf "near_of" "near_of" (qm zj) (qj zj) (qe zj) .none .none .none (.str "onceroad.webs" 443) none (.ref 368) .none),#[]⟩:Obj)) ::
 (nat_lit 375,(⟨(.type "code"),none,.fields #[(.str "piece_around" 656),(.str "piece_around" 657),(.str "/claim/cut.py" 658),(.int 185 0),(.int 2 0),(.int 0 0),(.int 0 0),(.int 3 0),(.ref 370),(.bool true),(.int 181 0),(.ref 371),.none,(.ref 372),(.ref 373),(.ref 374),(.int 665 0),(.int 185 0),(.str "/claim/cut.py" 666)],#[]⟩:Obj)) ::
 (nat_lit 376,(⟨(.type "function"),none,.func (fnOf "piece_around" "piece_around" (qm je) (qj je) (qe je) .none .none .none (.str "onceroad.webs" 443) none (.ref 375) .none),#[]⟩:Obj)) ::
 (nat_lit 382,(⟨(.type "code"),none,.fields #[(.str "_law_cell" 670),(.str "_law_cell" 671),(.str "/claim/cut.py" 672),(.int 195 0),(.int 2 0),(.int 0 0),(.int 0 0),(.int 3 0),(.ref 377),(.bool true),(.int 181 0),(.ref 378),.none,(.ref 379),(.ref 380),(.ref 381),(.int 675 0),(.int 195 0),(.str "/claim/cut.py" 676)],#[]⟩:Obj)) ::
 (nat_lit 383,(⟨(.type "function"),none,.func (fnOf "_law_cell" "_law_cell" (qm zN) (qj zN) (qe zN) .none .none .none (.str "law_onceroad_k41_pieces_beside_bars" 668) none (.ref 382) .none),#[]⟩:Obj)) ::
 (nat_lit 389,(⟨(.type "code"),none,.fields #[(.str "_law_purse" 678),(.str "_law_purse" 679),(.str "/claim/cut.py" 680),(.int 199 0),(.int 1 0),(.int 0 0),(.int 0 0),(.int 3 0),(.ref 384),(.bool true),(.int 181 0),(.ref 385),.none,(.ref 386),(.ref 387),(.ref 388),(.int 682 0),(.int 199 0),(.str "/claim/cut.py" 683)],#[]⟩:Obj)) ::
 (nat_lit 390,(⟨(.type "function"),none,.func (fnOf "_law_purse" "_law_purse" (qm zk) (qj zk) (qe zk) .none .none .none (.str "law_onceroad_k41_pieces_beside_bars" 668) none (.ref 389) .none),#[]⟩:Obj)) ::
 (nat_lit 396,(⟨(.type "code"),none,.fields #[(.str "_law_take" 685),(.str "_law_take" 686),(.str "/claim/cut.py" 687),(.int 201 0),(.int 2 0),(.int 0 0),(.int 0 0),(.int 3 0),(.ref 391),(.bool true),(.int 181 0),(.ref 392),.none,(.ref 393),(.ref 394),(.ref 395),(.int 692 0),(.int 201 0),(.str "/claim/cut.py" 693)],#[]⟩:Obj)) ::
 (nat_lit 397,(⟨(.type "function"),none,.func (fnOf "_law_take" "_law_take" (qm zO) (qj zO) (qe zO) .none .none .none (.str "law_onceroad_k41_pieces_beside_bars" 668) none (.ref 396) .none),#[]⟩:Obj)) ::
 (nat_lit 401,(⟨(.type "code"),none,.fields #[(.str "_law_names" 695),(.str "_law_names" 696),(.str "/claim/cut.py" 697),(.int 211 0),(.int 2 0),(.int 0 0),(.int 0 0),(.int 3 0),(.ref 398),(.bool true),(.int 181 0),(.ref 399),.none,.none,.none,(.ref 400),(.int 698 0),(.int 211 0),(.str "/claim/cut.py" 699)],#[]⟩:Obj)) ::
 (nat_lit 402,(⟨(.type "function"),none,.func (fnOf "_law_names" "_law_names" (qm j7) (qj j7) (qe j7) .none .none .none (.str "law_onceroad_k41_pieces_beside_bars" 668) none (.ref 401) .none),#[]⟩:Obj)) ::
 (nat_lit 408,(⟨(.type "code"),none,.fields #[(.str "_law_ties" 701),(.str "_law_ties" 702),(.str "/claim/cut.py" 703),(.int 229 0),(.int 2 0),(.int 0 0),(.int 0 0),(.int 3 0),(.ref 403),(.bool true),(.int 181 0),(.ref 404),.none,(.ref 405),(.ref 406),(.ref 407),(.int 712 0),(.int 229 0),(.str "/claim/cut.py" 713)],#[]⟩:Obj)) ::
 (nat_lit 409,(⟨(.type "function"),none,.func (fnOf "_law_ties" "_law_ties" (qm zQ) (qj zQ) (qe zQ) .none .none .none (.str "law_onceroad_k41_pieces_beside_bars" 668) none (.ref 408) .none),#[]⟩:Obj)) ::
 (nat_lit 415,(⟨(.type "code"),none,.fields #[(.str "_law_many" 715),(.str "_law_many" 716),(.str "/claim/cut.py" 717),(.int 241 0),(.int 2 0),(.int 0 0),(.int 0 0),(.int 3 0),(.ref 410),(.bool true),(.int 181 0),(.ref 411),.none,(.ref 412),(.ref 413),(.ref 414),(.int 720 0),(.int 241 0),(.str "/claim/cut.py" 721)],#[]⟩:Obj)) ::
 (nat_lit 416,(⟨(.type "function"),none,.func (fnOf "_law_many" "_law_many" (qm zP) (qj zP) (qe zP) .none .none .none (.str "law_onceroad_k41_pieces_beside_bars" 668) none (.ref 415) .none),#[]⟩:Obj)) ::
 (nat_lit 422,(⟨(.type "code"),none,.fields #[(.str "_law_made" 723),(.str "_law_made" 724),(.str "/claim/cut.py" 725),(.int 243 0),(.int 2 0),(.int 0 0),(.int 0 0),(.int 3 0),(.ref 417),(.bool true),(.int 181 0),(.ref 418),.none,(.ref 419),(.ref 420),(.ref 421),(.int 731 0),(.int 243 0),(.str "/claim/cut.py" 732)],#[]⟩:Obj)) ::
 (nat_lit 423,(⟨(.type "function"),none,.func (fnOf "_law_made" "_law_made" (qm zR) (qj zR) (qe zR) .none .none .none (.str "law_onceroad_k41_pieces_beside_bars" 668) none (.ref 422) .none),#[]⟩:Obj)) ::
 (nat_lit 429,(⟨(.type "code"),none,.fields #[(.str "_law_bits" 734),(.str "_law_bits" 735),(.str "/claim/cut.py" 736),(.int 248 0),(.int 2 0),(.int 0 0),(.int 0 0),(.int 3 0),(.ref 424),(.bool true),(.int 181 0),(.ref 425),.none,(.ref 426),(.ref 427),(.ref 428),(.int 742 0),(.int 248 0),(.str "/claim/cut.py" 743)],#[]⟩:Obj)) ::
 (nat_lit 430,(⟨(.type "function"),none,.func (fnOf "_law_bits" "_law_bits" (qm zS) (qj zS) (qe zS) .none .none .none (.str "law_onceroad_k41_pieces_beside_bars" 668) none (.ref 429) .none),#[]⟩:Obj)) ::
 (nat_lit 434,(⟨(.type "code"),none,.fields #[(.str "_law_pieces" 745),(.str "_law_pieces" 746),(.str "/claim/cut.py" 747),(.int 254 0),(.int 3 0),(.int 0 0),(.int 0 0),(.int 3 0),(.ref 431),(.bool true),(.int 181 0),(.ref 432),.none,.none,.none,(.ref 433),(.int 748 0),(.int 254 0),(.str "/claim/cut.py" 749)],#[]⟩:Obj)) ::
 (nat_lit 435,(⟨(.type "function"),none,.func (fnOf "_law_pieces" "_law_pieces" (qm jA) (qj jA) (qe jA) .none .none .none (.str "law_onceroad_k41_pieces_beside_bars" 668) none (.ref 434) .none),#[]⟩:Obj)) ::
 (nat_lit 439,(⟨(.type "code"),none,.fields #[(.str "_law_some" 751),(.str "_law_some" 752),(.str "/claim/cut.py" 753),(.int 267 0),(.int 3 0),(.int 0 0),(.int 0 0),(.int 3 0),(.ref 436),(.bool true),(.int 181 0),(.ref 437),.none,.none,.none,(.ref 438),(.int 754 0),(.int 267 0),(.str "/claim/cut.py" 755)],#[]⟩:Obj)) ::
 (nat_lit 440,(⟨(.type "function"),none,.func (fnOf "_law_some" "_law_some" (qm zv) (qj zv) (qe zv) .none .none .none (.str "law_onceroad_k41_pieces_beside_bars" 668) none (.ref 439) .none),#[]⟩:Obj)) ::
 (nat_lit 444,(⟨(.type "code"),none,.fields #[(.str "_law_room" 757),(.str "_law_room" 758),(.str "/claim/cut.py" 759),(.int 271 0),(.int 2 0),(.int 0 0),(.int 0 0),(.int 3 0),(.ref 441),(.bool true),(.int 181 0),(.ref 442),.none,.none,.none,(.ref 443),(.int 760 0),(.int 271 0),(.str "/claim/cut.py" 761)],#[]⟩:Obj)) ::
 (nat_lit 445,(⟨(.type "function"),none,.func (fnOf "_law_room" "_law_room" (qm zu) (qj zu) (qe zu) .none .none .none (.str "law_onceroad_k41_pieces_beside_bars" 668) none (.ref 444) .none),#[]⟩:Obj)) ::
 (nat_lit 451,(⟨(.type "code"),none,.fields #[(.str "_law_asked" 763),(.str "_law_asked" 764),(.str "/claim/cut.py" 765),(.int 273 0),(.int 3 0),(.int 0 0),(.int 0 0),(.int 3 0),(.ref 446),(.bool true),(.int 181 0),(.ref 447),.none,(.ref 448),(.ref 449),(.ref 450),(.int 769 0),(.int 273 0),(.str "/claim/cut.py" 770)],#[]⟩:Obj)) ::
 (nat_lit 452,(⟨(.type "function"),none,.func (fnOf "_law_asked" "_law_asked" (qm j9) (qj j9) (qe j9) .none .none .none (.str "law_onceroad_k41_pieces_beside_bars" 668) none (.ref 451) .none),#[]⟩:Obj)) ::
 (nat_lit 458,(⟨(.type "code"),none,.fields #[(.str "_law_refused" 772),(.str "_law_refused" 773),(.str "/claim/cut.py" 774),(.int 279 0),(.int 3 0),(.int 0 0),(.int 0 0),(.int 3 0),(.ref 453),(.bool true),(.int 181 0),(.ref 454),.none,(.ref 455),(.ref 456),(.ref 457),(.int 780 0),(.int 279 0),(.str "/claim/cut.py" 781)],#[]⟩:Obj)) ::
 (nat_lit 459,(⟨(.type "function"),none,.func (fnOf "_law_refused" "_law_refused" (qm jE) (qj jE) (qe jE) .none .none .none (.str "law_onceroad_k41_pieces_beside_bars" 668) none (.ref 458) .none),#[]⟩:Obj)) ::
 (nat_lit 465,(⟨(.type "code"),none,.fields #[(.str "_law_bad" 783),(.str "_law_bad" 784),(.str "/claim/cut.py" 785),(.int 288 0),(.int 3 0),(.int 0 0),(.int 0 0),(.int 3 0),(.ref 460),(.bool true),(.int 181 0),(.ref 461),.none,(.ref 462),(.ref 463),(.ref 464),(.int 792 0),(.int 288 0),(.str "/claim/cut.py" 793)],#[]⟩:Obj)) ::
 (nat_lit 466,(⟨(.type "function"),none,.func (fnOf "_law_bad" "_law_bad" (qm qaC) (qj qaC) (qe qaC) .none .none .none (.str "law_onceroad_k41_pieces_beside_bars" 668) none (.ref 465) .none),#[]⟩:Obj)) ::
 (nat_lit 470,(⟨(.type "code"),none,.fields #[(.str "_law_right" 795),(.str "_law_right" 796),(.str "/claim/cut.py" 797),(.int 297 0),(.int 4 0),(.int 0 0),(.int 0 0),(.int 3 0),(.ref 467),(.bool true),(.int 181 0),(.ref 468),.none,.none,.none,(.ref 469),(.int 798 0),(.int 297 0),(.str "/claim/cut.py" 799)],#[]⟩:Obj)) ::
 (nat_lit 471,(⟨(.type "function"),none,.func (fnOf "_law_right" "_law_right" (qm jP) (qj jP) (qe jP) .none .none .none (.str "law_onceroad_k41_pieces_beside_bars" 668) none (.ref 470) .none),#[]⟩:Obj)) ::
 (nat_lit 475,(⟨(.type "code"),none,.fields #[(.str "law" 801),(.str "law" 802),(.str "/claim/cut.py" 803),(.int 313 0),(.int 1 0),(.int 0 0),(.int 0 0),(.int 3 0),(.ref 472),(.bool true),(.int 181 0),(.ref 473),.none,.none,.none,(.ref 474),(.int 804 0),(.int 313 0),(.str "/claim/cut.py" 805)],#[]⟩:Obj)) ::
 (nat_lit 476,(⟨(.type "function"),none,.func (fnOf "law" "law" (qm qaD) (qj qaD) (qe qaD) .none .none .none (.str "law_onceroad_k41_pieces_beside_bars" 668) none (.ref 475) .none),#[]⟩:Obj)) ::
 []
def ks:List Addr:=[1,2,3,34,35,37,38,54,55,57,58,73,74,76,77,92,93,95,96,111,112,114,115,130,131,133,134,149,150,152,153,168,169,171,172,180,181,187,188,192,193,199,200,204,205,218,219,232,233,246,247,260,261,267,268,274,275,288,289,300,301,305,306,329,330,340,341,347,348,354,355,361,362,368,369,375,376,382,383,389,390,396,397,401,402,408,409,415,416,422,423,429,430,434,435,439,440,444,445,451,452,458,459,465,466,470,471,475,476]
theorem ks_eq:∀ P,ks=(Kf P).map (·.1):=fun P=>by kernel_rfl
noncomputable abbrev Hk:Hook:=kHook Kf ks ks_eq
noncomputable abbrev Xt (s:Shared):Bool:=xlAt Q [] s&&recOk [] s
noncomputable def runAt (w:World) (os:OsState):=Hd.lookT PySem.Challenge.pw_onceroad_k41_pieces_beside_bars Q Xt (fun s=>ks.map s.heap.get?) NN w os
noncomputable def goodAt (w:World) (_:OsState):=some (openGood Q [],(Kf w.params).map fun p=>some p.2)
def tag {α:Type} (f g:World→OsState→α):Bool:=true
theorem tag1:tag runAt goodAt=true:=by k_qdec
theorem hl1 (w:World) (os:OsState):runAt w os=goodAt w os:=by
 rw [PySem.W.Fast.te18007217080897585455,PySem.W.Fast.te17915806711301815731]
 kernel_rfl
theorem hl:LeftO PySem.Challenge.pw_onceroad_k41_pieces_beside_bars Q [] Xt (Hook.obs Hk) (Hook.val Hk) NN:=Hd.left_of (by kernel_rfl) (by decide) (fun s=>by kernel_rfl) fun w os=>hl1 w os
end K41
set_option maxRecDepth 100000 in
set_option maxHeartbeats 0 in
theorem PySem.Challenge.cw_onceroad_k41_pieces_beside_bars_holds : PySem.Challenge.rw_onceroad_k41_pieces_beside_bars.Holds := by
  w_on; o_law
  refine PySem.W.holds_open (q := K41.Q) (loose := []) (Xt := K41.Xt) (XP := PySem.W.XL K41.Q []) (Yf := PySem.W.Hook.obs K41.Hk) (Ya := PySem.W.Hook.val K41.Hk) (YP := PySem.W.Hook.says (PySem.W.kHook K41.Kf K41.ks K41.ks_eq)) (N := K41.NN) K41.hl (PySem.W.Hook.of K41.Hk) (PySem.W.Hook.keeps K41.Hk) (fun s e => PySem.W.xl_of s (Bool.and_eq_true_iff.mp e).1) PySem.W.XL.keeps (by rfl) (by rfl) (by rfl) (fun s e => PySem.W.recFacts_of (Bool.and_eq_true_iff.mp e).2) (by rfl) (by first | assumption | decide +kernel) (by decide +kernel) ⟨rfl, rfl, rfl, rfl, rfl, by decide +kernel⟩ ?hw ?hc
  (case hw => w_witness2)
  k_fill
  refine K41.walk (l := PySem.Challenge.rw_onceroad_k41_pieces_beside_bars) rfl rfl (fun w h Y => PySem.W.kIn_of Y) ?F
  case F =>
    intro w mg fa h KX G hmg
    refine' K41.all_mk KX G hmg ?_ ?_ ?_ ?_ ?_ ?_ ?_ ?_ ?_ ?_ ?_ ?_ ?_ ?_ ?_ ?_ ?_ ?_ ?_ ?_ ?_ ?_ ?_ ?_ ?_ ?_ ?_ ?_ ?_ ?_ ?_ ?_ ?_ ?_ ?_ ?_ ?_ ?_ ?_ ?_ ?_ ?_ ?_ ?_ ?_ ?_ ?_ ?_ ?_ ?_ ?_ ?_ ?_ ?_ ?_ ?_ ?_ ?_ ?_ ?_ ?_ ?_ ?_ ?_ ?_ ?_ ?_ ?_ ?_ ?_ ?_ ?_ ?_ ?_ ?_ ?_ ?_ ?_ ?_ ?_ ?_ ?_ ?_ ?_ ?_ ?_ ?_ ?_ ?_ ?_ ?_ ?_ ?_ ?_ ?_ ?_ ?_ ?_ ?_ ?_ ?_ ?_ ?_ ?_ ?_ ?_ ?_ ?_ ?_ ?_ ?_ ?_ ?_ ?_ ?_ ?_ ?_ ?_ ?_ ?_
    any_goals first | k_is | decide
    any_goals first | k_is | decide | exact ⟨_, _, by k_is, L2.fun_mk (by k_is) (by k_is) (by k_is)⟩ | exact ⟨_, _, by k_is, by k_is, L2.fun_mk (by k_is) (by k_is) (by k_is)⟩ | exact ⟨_, _, _, _, _, _, _, _, _, _, _, _, _, _, _, by k_is⟩ | exact ⟨by k_is, by k_is, by k_is, by k_is, by k_is, by k_is, by k_is, by k_is⟩ | kernel_rfl | fail
