import PyProof.Rows.All
import Wide.All
import OpenK.AllK
import Wide.FinOn
import PyProof.EqAt
import PyProof.EqKinds
import PyProof.TupleCall
import Lean
import PySem.Challenge.RW_onceroad_k23_rows_turned
set_option Elab.async false
set_option linter.all false
set_option maxRecDepth 100000
theorem ya {α β:Type} {as:List α} (f:α→β):(as.map f).length=as.length:=List.length_map f
theorem yb {α:Type} {l:List α} {i:Nat} (h:i<l.length):l[i]?=some l[i]:=List.getElem?_eq_getElem h
theorem yc {α:Type} {l:List α} {i:Nat} {a:α}:l[i]?=some a↔∃h:i<l.length,l[i]=a:=List.getElem?_eq_some_iff
theorem yd {α β:Type} {f:α→β} {l:List α} {i:Nat}:(l.map f)[i]?=l[i]?.map f:=List.getElem?_map
theorem ye {α:Type} {l:List α} {i:Nat} {a:α} (h:l[i]?=some a):a∈l:=List.mem_of_getElem? h
theorem yf {α:Type} {a:α} {l:List α} (h:a∈l):∃i:Nat,l[i]?=some a:=List.getElem?_of_mem h
abbrev yg:=PySem.W.Frag
theorem yh (n:Nat):n≤n:=Nat.le_refl n
theorem yi {a b c:Nat} (h:a≤b) (k:b≤c):a≤c:=Nat.le_trans h k
theorem yj {a b c:Nat} (h:a<b) (k:b≤c):a<c:=Nat.lt_of_lt_of_le h k
theorem yk {p:Prop} [Decidable p] (h:decide p=true):p:=of_decide_eq_true h
theorem yl {p:Prop} [Decidable p] (h:¬p):decide p=false:=decide_eq_false h
theorem ym {α:Type} {a b:α} (h:some a=some b):a=b:=Option.some.inj h
theorem yn {α β:Type} {f:α→β} {x:Option α} {b:β}:x.map f=some b↔∃a,x=some a∧f a=b:=Option.map_eq_some_iff
theorem yo {α:Type} {a:α} {l:List α}:(a::l).Nodup↔a∉l∧l.Nodup:=List.nodup_cons
theorem yp {α:Type} {p:α→Bool} {as:List α} {x:α}:x∈as.filter p↔x∈as∧p x=true:=List.mem_filter
theorem yq {A B:Prop} (h:B):if false=true then A else B:=h
namespace L2
open PySem PySem.Spec PyProof.Rows
abbrev Key:=Sum Int Str
def qcA:Key→Value→Bool
 | .inl k,v=>Value.isInt k v
 | .inr x,v=>Value.isStrOf x v
def keyH (w:World):Key→Int
 | .inl k=>hashInt k
 | .inr x=>hashStr w x
theorem qN:∀ {k:Key} {v:Value},qcA k v=true→(∃ i t,k=Sum.inl i∧v=Value.int i t)∨(∃ x t,k=Sum.inr x∧v=Value.str x t)
 | .inl i,v,h=>by
  obtain ⟨t,e⟩:=Value.isInt_shape (k:=i) (v:=v) h
  exact .inl ⟨i,t,rfl,e⟩
 | .inr x,v,h=>by
  obtain ⟨t,e⟩:=Value.isStrOf_shape (x:=x) (v:=v) h
  exact .inr ⟨x,t,rfl,e⟩
theorem keyIs_int (i:Int) (t:Tok):qcA (.inl i) (.int i t)=true:=by simp [qcA,Value.isInt]
theorem keyIs_str (x:Str) (t:Tok):qcA (.inr x) (.str x t)=true:=by simp [qcA,Value.isStrOf]
theorem key_ll (a b:Int):decide ((Sum.inl a:Key)=Sum.inl b)=(a==b):=by
 by_cases e:a=b
 ·subst e;simp
 ·have h:¬ (Sum.inl a:Key)=Sum.inl b:=fun q=>e (Sum.inl.inj q)
  rw [yl h]
  exact (beq_eq_false_iff_ne.mpr e).symm
theorem key_rr (a b:Str):decide ((Sum.inr a:Key)=Sum.inr b)=decide (a=b):=by
 by_cases e:a=b
 ·subst e;simp
 ·have h:¬ (Sum.inr a:Key)=Sum.inr b:=fun q=>e (Sum.inr.inj q)
  rw [yl h,yl e]
theorem key_lr (a:Int) (b:Str):decide ((Sum.inl a:Key)=Sum.inr b)=false:=yl (fun q=>nomatch q)
theorem key_rl (a:Str) (b:Int):decide ((Sum.inr a:Key)=Sum.inl b)=false:=yl (fun q=>nomatch q)
def jd (prog:Program) (w:World):PySem.KeyKind prog w Key where
 is:=qcA
 hash:=keyH w
 inj:=fun v a b ha hb=>by
  rcases qN ha with ⟨i,t,rfl,rfl⟩ | ⟨x,t,rfl,rfl⟩
  ·rcases qN hb with ⟨j,u,rfl,e⟩ | ⟨y,u,rfl,e⟩
   ·injection e with e1 _;rw [e1]
   ·exact nomatch e
  ·rcases qN hb with ⟨j,u,rfl,e⟩ | ⟨y,u,rfl,e⟩
   ·exact nomatch e
   ·injection e with e1 _;rw [e1]
 byValue:=fun k v h=>by
  rcases qN h with ⟨i,t,rfl,rfl⟩ | ⟨x,t,rfl,rfl⟩<;>rfl
 pyHash:=fun hv h=>by
  rcases qN hv with ⟨i,t,rfl,rfl⟩ | ⟨x,t,rfl,rfl⟩
  ·exact wpAny_pyHash_int h
  ·exact wpAny_pyHash_str h
 eqBool:=fun hu hv h=>by
  rcases qN hu with ⟨i,t,rfl,rfl⟩ | ⟨x,t,rfl,rfl⟩
  ·rcases qN hv with ⟨j,u,rfl,rfl⟩ | ⟨y,u,rfl,rfl⟩
   ·rw [key_ll] at h;exact wpAny_eqBool_int h
   ·rw [key_lr] at h;exact SeqAt.EqAt.int_str i t y u _ _ _ _ h
  ·rcases qN hv with ⟨j,u,rfl,rfl⟩ | ⟨y,u,rfl,rfl⟩
   ·rw [key_rl] at h;exact SeqAt.EqAt.str_int x t j u _ _ _ _ h
   ·rw [key_rr] at h;exact wpAny_eqBool_str h
 «strs»:=fun k x t v h=>by
  rcases qN h with ⟨i,u,rfl,e⟩ | ⟨y,u,rfl,e⟩
  ·exact nomatch e
  ·injection e with e1 _
   subst e1
   cases v<;>rfl
theorem mixKind_int (prog:Program) (w:World) (i:Int) (t:Tok):(jd prog w).is (.inl i) (.int i t)=true:=keyIs_int i t
theorem mixKind_str (prog:Program) (w:World) (x:Str) (t:Tok):(jd prog w).is (.inr x) (.str x t)=true:=keyIs_str x t
inductive V where
 | non | bl (b:Bool) | int (i:Int) | str (x:Str) | byt (b:Array UInt8) | flt (b:UInt64) | ref (a:Addr) | ty (n:String)
 deriving DecidableEq
def RelV:V→Value→Prop
 | .non,u=>u=Value.none
 | .bl b,u=>u=Value.bool b
 | .int i,u=>∃ t,u=Value.int i t
 | .str x,u=>∃ t,u=Value.str x t
 | .byt b,u=>∃ t,u=Value.bytes b t
 | .flt b,u=>∃ t,u=Value.float b t
 | .ref a,u=>u=Value.ref a
 | .ty n,u=>u=Value.type n
abbrev Vals:List V→List Value→Prop:=Paired RelV
theorem Vals.length {xs:List V} {us:List Value} (r:Vals xs us):xs.length=us.length:=Paired.length r
theorem Vals.get:∀ {xs:List V} {us:List Value} {i:Nat} {x:V},Vals xs us→xs[i]?=some x→∃ u,us[i]?=some u∧RelV x u
 | _,_,_,_,.nil,e=>by simp at e
 | _,_,0,_,.cons r _,e=>by simp at e;subst e;exact ⟨_,rfl,r⟩
 | _,_,i + 1,x,.cons _ t,e=>by
  obtain ⟨u,h1,h2⟩:=Vals.get (i:=i) (x:=x) t (by simpa using e)
  exact ⟨u,by simpa using h1,h2⟩
theorem Vals.set {x:V} {u:Value} (r:RelV x u):∀ {xs:List V} {us:List Value} (i:Nat),Vals xs us→Vals (xs.set i x) (us.set i u)
 | _,_,_,.nil=>.nil
 | _,_,0,.cons _ t=>.cons r t
 | _,_,i + 1,.cons q t=>.cons q (Vals.set r i t)
theorem Vals.append:∀ {xs ys:List V} {us ws:List Value},Vals xs us→Vals ys ws→Vals (xs++ys) (us++ws)
 | _,_,_,_,.nil,s=>s
 | _,_,_,_,.cons r t,s=>.cons r (Vals.append t s)
theorem Vals.take:∀ {xs:List V} {us:List Value} (n:Nat),Vals xs us→Vals (xs.take n) (us.take n)
 | _,_,0,_=>.nil
 | _,_,_ + 1,.nil=>.nil
 | _,_,n + 1,.cons r t=>.cons r (Vals.take n t)
theorem Vals.drop:∀ {xs:List V} {us:List Value} (n:Nat),Vals xs us→Vals (xs.drop n) (us.drop n)
 | _,_,0,r=>r
 | _,_,_ + 1,.nil=>.nil
 | _,_,n + 1,.cons _ t=>Vals.drop n t
def RelO:Option V→Option Value→Prop
 | some v,some u=>RelV v u
 | none,none=>True
 | _,_=>False
def KV {κ:Type}:List (κ×V)→List (κ×Value)→Prop:=Paired fun (p:κ×V) (q:κ×Value)=>p.1=q.1∧RelV p.2 q.2
def kV:Key→V
 | .inl i=>.int i
 | .inr x=>.str x
inductive HO where
 /-- a list -/
 | lst (xs:List V)
 /-- a tuple (never changes) -/
 | tup (xs:List V)
 /-- a dict whose keys are ints and texts;one whose keys are tuples of ints and texts (the empty one is both) -/
 | dK (kvs:List (Key×V)) | dT (kvs:List (List Key×V))
 /-- a set of ints: its members,its size -/
 | set (S:Int→Bool) (n:Nat)
 /-- an instance of the class at C,its dict at dx,its attributes -/
 | ins (C dx:Addr) (fs:List (Str×V))
 /-- the dict of the instance at x -/
 | own (x:Addr)
 /-- the dict of an exception -/
 | xd (fs:List (Str×V))
 /-- a bound method,f of x -/
 | met (f x:Addr)
 /-- a range object lo,lo + 1,.. below hi -/
 | rng (lo hi:Int)
 /-- a thing that is known to the object (the script;a dict while a loop walks it): read,never written while it is so -/
 | frz (o:Obj) (u:HO)
 /-- a code object's table -/
 | tbl (ps:Array Value)
 /-- any other thing,by what is true of its one object (a def of one's own: SetO a S n:=HO.ext fun h=>..) -/
 | ext (φ:Heap→Prop)
abbrev Hp:=Addr→Option HO
def upd (H:Hp) (a:Addr) (o:HO):Hp:=fun b=>if b=a then some o else H b
theorem qc {H:Hp} {a:Addr} {o:HO}:upd H a o a=some o:=by unfold upd;rw [if_pos rfl]
theorem qh {H:Hp} {a b:Addr} {o:HO} (h:b≠a):upd H a o b=H b:=by unfold upd;rw [if_neg h]
theorem qa5 {H:Hp} {a b:Addr} {o u:HO} (h:H a=some o) (h':H b=some u) (d:o≠u):a≠b:=by
 intro e;subst e;rw [h] at h';exact d (ym h')
theorem qE {H:Hp} {a b:Addr} {o:HO} (h:H a=some o) (h':H b=none):a≠b:=by
 intro e;subst e;rw [h] at h';cases h'
section
variable (P:Program) (w:World)
def ObjOk (H:Hp) (h:Heap) (a:Addr):HO→Prop
 | .lst xs=>xs.length≤sizeLine∧∃ (its:List Value) (n:Nat),Vals xs its∧h.get? a=some { cls:=.type "list",data:=.seq its.toArray n }
 | .tup xs=>xs.length≤sizeLine∧∃ its:List Value,Vals xs its∧IsTup h a its.toArray
 | .dK kvs=>kvs.length≤sizeLine∧(a==sysModules)=false∧∃ vs,KV kvs vs∧h.DictOf (jd P w) a vs
 | .dT kvs=>kvs.length≤sizeLine∧(a==sysModules)=false∧∃ xs:List (List Key×Addr×Value),
   Paired (fun (p:List Key×V) (q:List Key×Addr×Value)=>p.1=q.1∧H q.2.1=some (.tup (p.1.map kV))∧RelV p.2 q.2.2) kvs xs ∧
   ∃ o es ep,h.get? a=some o∧o.ExactDict∧o.data=.dict es ep∧es.toList=xs.map (entryOfKey (tupleKind (jd P w)))∧(xs.map (·.1)).Nodup
 | .set S n=>h.SetOf (intKind P w) a S n
 | .ins C dx fs=>H dx=some (.own a)∧fs.length≤1000∧dx≠a∧h.get? a=some (PySem.W.instObj C dx) ∧
   ∃ mA,h.Ns1 dx mA∧(∀ f,RelO (fs.lookup f) (mA f))∧PySem.Within mA (fs.map (·.1))
 | .own _=>∃ o,h.get? a=some o
 | .xd fs=>∃ mA,h.Ns1 a mA∧∀ f,RelO (fs.lookup f) (mA f)
 | .rng lo hi=>∃ t u v,h.get? a=some { cls:=.type "range",data:=.fields #[.int lo t,.int hi u,.int 1 v] }
 | .frz o u=>h.get? a=some o∧ObjOk H h a u
 | .tbl ps=>h.get? a=some { cls:=.none,data:=.fields ps }
 | .met f x=>h.get? a=some (PySem.W.methodObj (.ref f) (.ref x))
 | .ext φ=>φ h∧(∃ o,h.get? a=some o)∧∀ h1 h2:Heap,φ h1→(∀ o,h1.get? a=some o→h2.get? a=some o)→φ h2
def HOk (H:Hp) (h:Heap):Prop:=∀ a o,H a=some o→ObjOk P w H h a o
end
section
variable {P:Program} {w:World} {H H':Hp} {h h':Heap} {a:Addr} {o:HO}
theorem ObjOk.lt (x:ObjOk P w H h a o):a < h.objs.size:=by
 cases o with
 | lst xs=>obtain ⟨_,_,_,_,e⟩:=x;exact Heap.lt_size e
 | tup xs=>obtain ⟨_,_,_,p⟩:=x;exact p.lt
 | dK kvs=>obtain ⟨_,_,_,_,o,_,_,e,_⟩:=x;exact Heap.lt_size e
 | dT kvs=>obtain ⟨_,_,_,_,o,_,_,e,_⟩:=x;exact Heap.lt_size e
 | set S n=>obtain ⟨o,_,_,_,e,_⟩:=x;exact Heap.lt_size e
 | ins C dx fs=>obtain ⟨_,_,_,e,_⟩:=x;exact Heap.lt_size e
 | own y=>obtain ⟨_,e⟩:=x;exact Heap.lt_size e
 | xd fs=>obtain ⟨_,⟨_,_,_,e,_⟩,_⟩:=x;exact Heap.lt_size e
 | rng lo hi=>obtain ⟨_,_,_,e⟩:=x;exact Heap.lt_size e
 | frz ob u=>obtain ⟨e,_⟩:=x;exact Heap.lt_size e
 | tbl ps=>exact Heap.lt_size (show h.get? a=some _ from x)
 | met f y=>exact Heap.lt_size (show h.get? a=some _ from x)
 | ext φ=>obtain ⟨_,⟨_,e⟩,_⟩:=x;exact Heap.lt_size e
theorem Paired.mapP {α β:Type} {F G:α→β→Prop}:∀ {l₁:List α} {l₂:List β},Paired F l₁ l₂→(∀ a b,F a b→G a b)→Paired G l₁ l₂
 | _,_,.nil,_=>.nil
 | _,_,.cons r t,f=>.cons (f _ _ r) (Paired.mapP t f)
theorem ObjOk.stay (x:ObjOk P w H h a o) (k:∀ b u,(b=a∨H b=some (.own a))→h.get? b=some u→h'.get? b=some u)
  (ho:∀ b,H b=some (.own a)→H' b=some (.own a)) (ht:∀ b xs,H b=some (.tup xs)→H' b=some (.tup xs)):ObjOk P w H' h' a o:=by
 induction o with
 | lst xs=>obtain ⟨z,its,n,r,e⟩:=x;exact ⟨z,its,n,r,k _ _ (.inl rfl) e⟩
 | tup xs=>obtain ⟨z,its,r,ob,e,c⟩:=x;exact ⟨z,its,r,ob,k _ _ (.inl rfl) e,c⟩
 | dK kvs=>obtain ⟨z,y,vs,r,ob,es,ep,e,c⟩:=x;exact ⟨z,y,vs,r,ob,es,ep,k _ _ (.inl rfl) e,c⟩
 | dT kvs =>
  obtain ⟨z,y,xs,r,ob,es,ep,e,c⟩:=x
  exact ⟨z,y,xs,Paired.mapP r fun p q z=>⟨z.1,ht _ _ z.2.1,z.2.2⟩,ob,es,ep,k _ _ (.inl rfl) e,c⟩
 | set S n=>obtain ⟨ob,es,ep,t,e,c⟩:=x;exact ⟨ob,es,ep,t,k _ _ (.inl rfl) e,c⟩
 | ins C dx fs =>
  obtain ⟨d,z,ne,e,mA,⟨od,es,ep,e2,c⟩,r⟩:=x
  exact ⟨ho _ d,z,ne,k _ _ (.inl rfl) e,mA,⟨od,es,ep,k _ _ (.inr d) e2,c⟩,r⟩
 | own y=>obtain ⟨ob,e⟩:=x;exact ⟨ob,k _ _ (.inl rfl) e⟩
 | xd fs=>obtain ⟨mA,⟨od,es,ep,e,c⟩,r⟩:=x;exact ⟨mA,⟨od,es,ep,k _ _ (.inl rfl) e,c⟩,r⟩
 | rng lo hi=>obtain ⟨t,u,v,e⟩:=x;exact ⟨t,u,v,k _ _ (.inl rfl) e⟩
 | frz ob u ih=>obtain ⟨e,q⟩:=x;exact ⟨k _ _ (.inl rfl) e,ih q⟩
 | tbl ps =>
  have e:h.get? a=some { cls:=.none,data:=.fields ps }:=x
  show h'.get? a=some { cls:=.none,data:=.fields ps }
  exact k a _ (.inl rfl) e
 | met f y =>
  have e:h.get? a=some (PySem.W.methodObj (.ref f) (.ref y)):=x
  show h'.get? a=some (PySem.W.methodObj (.ref f) (.ref y))
  exact k a _ (.inl rfl) e
 | ext φ=>obtain ⟨p,⟨o,e⟩,st⟩:=x;exact ⟨st _ _ p fun o q=>k _ _ (.inl rfl) q,⟨o,k _ _ (.inl rfl) e⟩,st⟩
theorem HOk.lt (x:HOk P w H h) (e:H a=some o):a < h.objs.size:=(x a o e).lt
theorem HOk.fresh (x:HOk P w H h) (e:h.objs.size≤a):H a=none:=by
 cases q:H a with
 | none=>rfl
 | some u=>exact absurd (yj (x.lt q) e) (Nat.lt_irrefl _)
theorem HOk.kept (x:HOk P w H h) (k:∀ b u,h.get? b=some u→h'.get? b=some u):HOk P w H h':=fun a o e =>
 (x a o e).stay (fun b u _ q=>k b u q) (fun _ q=>q) fun _ _ q=>q
theorem HOk.laid (x:HOk P w H h) (k:∀ b u,h.get? b=some u→h'.get? b=some u) (hp:h.objs.size≤a) (new:ObjOk P w (upd H a o) h' a o):HOk P w (upd H a o) h':=fun b u e=>by
 have hn:=x.fresh hp
 by_cases hb:b=a
 ·subst hb;rw [qc] at e;cases e;exact new
 ·rw [qh hb] at e
  exact (x b u e).stay (fun c v _ q=>k c v q) (fun c q=>by rw [qh (qE q hn)];exact q) fun c xs q=>by rw [qh (qE q hn)];exact q
end
def Rd (H:Hp) (a:Addr) (u:HO):Prop:=H a=some u∨∃ o,H a=some (.frz o u)
theorem Rd.ok {P:Program} {w:World} {H:Hp} {h:Heap} {a:Addr} {u:HO} (r:Rd H a u) (x:HOk P w H h):ObjOk P w H h a u:=by
 rcases r with r | ⟨o,r⟩
 ·exact x a u r
 ·obtain ⟨_,q⟩:=x a _ r
  exact q
def Mut:Option HO→Prop
 | some (.lst _)=>True
 | some (.dK _)=>True
 | some (.dT _)=>True
 | some (.set _ _)=>True
 | some (.ins _ _ _)=>True
 | some (.ext _)=>True
 | _=>False
section
variable {P:Program} {w:World} {H:Hp} {h h':Heap} {x e:Addr} {o':HO}
theorem HOk.write (ok:HOk P w H h) (mu:Mut (H x)) (he:e=x∨H e=some (.own x)) (k:∀ b u,b≠e→h.get? b=some u→h'.get? b=some u) (heo:∃ u,h'.get? e=some u)
  (new:ObjOk P w (upd H x o') h' x o'):HOk P w (upd H x o') h':=fun b u q=>by
 have nown:∀ c y,H c=some (.own y)→c≠x:=fun c y r z=>by subst z;rw [r] at mu;exact mu
 have ntup:∀ c xs,H c=some (.tup xs)→c≠x:=fun c xs r z=>by subst z;rw [r] at mu;exact mu
 by_cases hb:b=x
 ·subst hb;rw [qc] at q;cases q;exact new
 ·rw [qh hb] at q
  by_cases hbe:b=e
  ·have q':H b=some (.own x):=by
    rcases he with z | z
    ·exact absurd (hbe.trans z) hb
    ·rw [hbe];exact z
   rw [q] at q';cases q'
   obtain ⟨v,hv⟩:=heo
   exact ⟨v,by rw [hbe];exact hv⟩
  ·refine (ok b u q).stay (fun c v hc r=>k c v ?_ r) (fun c r=>by rw [qh (nown c b r)];exact r) fun c xs r=>by rw [qh (ntup c xs r)];exact r
   rcases hc with rfl | hc
   ·exact hbe
   ·rintro rfl
    rcases he with z | z
    ·exact nown c b hc z
    ·rw [hc] at z;cases z;exact hb rfl
end
structure Un (fs ex:List Addr) (H H':Hp) (h h':Heap):Prop where
 keep:∀ b o,h.get? b=some o→H b=none→b∉fs→b∉ex→h'.get? b=some o
 slot:∀ b o,h.get? b=some o→H b=none→b∈fs→b∉ex→∃ sl,h'.get? b=some { o with slots:=sl }
 free:∀ b o,h.get? b=some o→H b=none→b∉ex→H' b=none
 there:∀ b o,h.get? b=some o→b∉ex→∃ o',h'.get? b=some o'
 tups:∀ b xs,H b=some (.tup xs)→H' b=some (.tup xs)
 frzs:∀ b o u,H b=some (.frz o u)→H' b=some (.frz o u)
 tbls:∀ b ps,H b=some (.tbl ps)→∃ more,H' b=some (.tbl (ps++more))
section
variable {fs fs' ex ex':List Addr} {H H1 H2:Hp} {h h1 h2 h':Heap} {a x e:Addr} {o:HO}
theorem Un.any (u:Un fs ex H H1 h h1) {b:Addr} {ob:Obj} (q:h.get? b=some ob) (n:H b=none) (hx:b∉ex):∃ sl,h1.get? b=some { ob with slots:=sl }:=by
 by_cases hb:b∈fs
 ·exact u.slot b ob q n hb hx
 ·exact ⟨ob.slots,u.keep b ob q n hb hx⟩
theorem Un.kept (k:∀ b u,h.get? b=some u→h'.get? b=some u):Un fs ex H H h h':=
 ⟨fun b ob q _ _ _=>k b ob q,fun b ob q _ _ _=>⟨ob.slots,k b ob q⟩,fun _ _ _ n _=>n,fun b ob q _=>⟨ob,k b ob q⟩,fun _ _ q=>q,fun _ _ _ q=>q,fun _ ps q=>⟨#[],by rw [q];simp⟩⟩
theorem Un.refl:Un fs ex H H h h:=Un.kept fun _ _ q=>q
theorem Un.laid (k:∀ b u,h.get? b=some u→h'.get? b=some u) (hp:h.objs.size≤a) (hn:H a=none):Un fs ex H (upd H a o) h h' where
 keep:=fun b u q _ _ _=>k b u q
 slot:=fun b u q _ _ _=>⟨u.slots,k b u q⟩
 free:=fun b u q n _=>by rw [qh (Nat.ne_of_lt (yj (Heap.lt_size q) hp))];exact n
 there:=fun b u q _=>⟨u,k b u q⟩
 tups:=fun b xs q=>by rw [qh (qE q hn)];exact q
 frzs:=fun b u xs q=>by rw [qh (qE q hn)];exact q
 tbls:=fun b ps q=>⟨#[],by rw [qh (qE q hn),q];simp⟩
theorem Un.write (mu:Mut (H x)) (he:e=x∨H e=some (.own x)) (k:∀ b u,b≠e→h.get? b=some u→h'.get? b=some u) (heo:∃ u,h'.get? e=some u):Un fs ex H (upd H x o) h h':=by
 have hx:∀ b,H b=none→b≠x:=fun b n z=>by subst z;rw [n] at mu;exact mu
 have hb:∀ b,H b=none→b≠e:=fun b n z=>by
  subst z
  rcases he with r | r
  ·exact hx b n r
  ·rw [n] at r;cases r
 have hm:∀ b u,H b=some u→¬ Mut (some u)→b≠x:=fun b u q nm z=>by subst z;rw [q] at mu;exact nm mu
 refine ⟨fun b u q n _ _=>k b u (hb b n) q,fun b u q n _ _=>⟨u.slots,k b u (hb b n) q⟩,fun b u q n _=>by rw [qh (hx b n)];exact n,fun b u q _=>?_,
  fun b xs q=>by rw [qh (hm b _ q fun z=>z)];exact q,fun b u xs q=>by rw [qh (hm b _ q fun z=>z)];exact q,fun b ps q=>⟨#[],by rw [qh (hm b _ q fun z=>z),q];simp⟩⟩
 by_cases hbe:b=e
 ·subst hbe;exact heo
 ·exact ⟨u,k b u hbe q⟩
end
def trk (h:Heap) (H:Hp):List Addr:=(List.range h.objs.size).filter fun a=>(H a).isSome
def qeu (h:Heap) (H:Hp):Heap:=PySem.W.hideAll h (trk h H)
theorem hidT_size (h:Heap) (H:Hp):(qeu h H).objs.size=h.objs.size:=PySem.W.hideAll_size _ _
theorem hidT_get {h:Heap} {H:Hp} {b:Addr} {o:Obj} (e:h.get? b=some o) (n:H b=none):(qeu h H).get? b=some o:=
 PySem.W.hideAll_get _ e fun hm=>by
  have q:(H b).isSome=true:=(yp.mp hm).2
  rw [n] at q;simp at q
theorem of_hidT {h:Heap} {H:Hp} {b:Addr} {o:Obj} (e:(qeu h H).get? b=some o):h.get? b=some o∧H b=none:=by
 have e':h.get? b=some o:=PySem.W.of_hideAll (trk h H) e
 refine ⟨e',?_⟩
 cases q:H b with
 | none=>rfl
 | some x =>
  have hm:b∈trk h H:=yp.mpr ⟨List.mem_range.mpr (Heap.lt_size e'),by simp [q]⟩
  have z:(qeu h H).get? b=none:=PySem.W.hideAll_none (trk h H) hm
  rw [z] at e;cases e
def allNews (g h:Heap) (L:Addr):List (Addr×Obj):=(List.range h.objs.size).filterMap fun a=>if a=L∨(g.get? a).isSome=true then none else (h.get? a).map fun o=>(a,o)
def rest (g h:Heap) (L d:Addr):List (Addr×Obj):=(allNews g h L).filter fun p=>decide (p.1≠d)
structure Mod (K:yg) (mg:Str→Option Value) (base:Heap):Prop where
 kin:K.In base
 glob:base.Ns mainGlobals mg
 blt:∃ mb,base.Ns builtinsNs mb∧∀ x:Str,x≠"__name__"→mb x=bootBuiltins x
 nolimit:base.NoLimit
structure Cx where
 prog:Program
 w:World
 K:yg
 mg:Str→Option Value
 base:Heap
 A:Around
 N:List Str
 s₀:Shared
 H₀:Hp
 env:Env
 outer:List Env
 stack:List Env
 ex:List Addr
 fn:Str→Bool
 calm:Bool
 pn:List (Addr×Obj)
 xe:Value→Shared→Prop
def frs (l:List Env):List Addr:=l.filterMap (·.frame)
abbrev Cx.fs (X:Cx):List Addr:=frs X.outer
def Vis (sc:Scope) (x:Str):Prop:=sc.names.lookup x=some .local∨sc.names.lookup x=some .cell∨sc.names.lookup x=some .free
def Loc (sc:Scope) (x:Str):Prop:=sc.names.lookup x=some .local∨sc.names.lookup x=some .cell
def Look (env:Env) (h:Heap) (m:Str→Option Value) (x:Str) (u:Value):Prop:=
 (env.kindOf x=some .local∧m x=some u)∨((env.kindOf x=some .cell∨env.kindOf x=some .free)∧∃ c,env.cells.lookup x=some c∧h.IsCell c (some u))
structure Cx.Ok (X:Cx):Prop where
 mod:Mod X.K X.mg X.base
 kind:X.env.scope.kind=.function
 glob:X.env.globals=mainGlobals
 blt:X.env.builtins=builtinsNs
 above:X.s₀.heap.objs.size≤X.env.locals
 inj:∀ x y c,X.env.cells.lookup x=some c→X.env.cells.lookup y=some c→x=y
 has:∀ x,(X.env.kindOf x=some .cell∨X.env.kindOf x=some .free)→∃ c,X.env.cells.lookup x=some c
 cab:∀ x c,X.fn x=true→X.env.cells.lookup x=some c→X.s₀.heap.objs.size≤c
 hd:X.calm=true→X.A.handled=none
 frames:X.A.frames=some X.stack
 stk:X.stack=X.outer∨(X.stack=X.env::X.outer∧X.env.frame=some X.env.locals)
 exf:∀ b∈X.ex,b≠X.env.locals∧∀ x c,X.env.cells.lookup x=some c→c≠b
 bs:∀ b o,X.base.get? b=some o→X.s₀.heap.get? b=some o∧X.H₀ b=none
 bsz:X.base.objs.size≤X.s₀.heap.objs.size
 noex:∀ b o,X.base.get? b=some o→b∉X.ex
 exfs:∀ b∈X.ex,b∉X.fs
 funs:X.s₀.heap.FunFrames X.base X.outer
 frf:∀ b∈X.fs,X.H₀ b=none
structure Inv (X:Cx) (pins:List (Addr×Obj)) (σ:List (Option V)) (H:Hp) (s:Shared):Prop where
 ok:X.Ok
 os:s.os=X.s₀.os
 bare:AllBare s.gens
 base:Un X.fs X.ex X.H₀ H X.s₀.heap s.heap
 loc:∃ m,s.heap.Ns X.env.locals m∧∀ (i:Nat) (x:Str) (v:V),X.N[i]?=some x→σ[i]?=some (some v)→Vis X.env.scope x→∃ u,RelV v u∧Look X.env s.heap m x u
 cell:∀ x c,X.env.cells.lookup x=some c→∃ v,s.heap.IsCell c v
 free:H X.env.locals=none
 freeC:∀ x c,X.env.cells.lookup x=some c→H c=none
 pin:∀ p∈X.pn++pins,s.heap.get? p.1=some p.2∧H p.1=none∧p.1≠X.env.locals∧p.1∉X.fs∧∀ v,p.2.data≠.cell v
 hok:HOk X.prog X.w H s.heap
 len:σ.length=X.N.length
section
variable {X:Cx} {pins:List (Addr×Obj)} {σ:List (Option V)} {H H':Hp} {s:Shared} {h':Heap}
theorem Cx.Ok.nofr (ok:X.Ok) {b:Addr} {o:Obj} (e:X.base.get? b=some o):b∉X.fs:=fun hb=>by
 have:=(ok.funs.mem hb).1
 rw [e] at this;cases this
theorem Inv.bs (I:Inv X pins σ H s):∀ b o,X.base.get? b=some o→s.heap.get? b=some o∧H b=none:=fun b o e =>
 ⟨I.base.keep b o (I.ok.bs b o e).1 (I.ok.bs b o e).2 (I.ok.nofr e) (I.ok.noex b o e),I.base.free b o (I.ok.bs b o e).1 (I.ok.bs b o e).2 (I.ok.noex b o e)⟩
theorem Inv.bk (I:Inv X pins σ H s):∀ b o,X.base.get? b=some o→s.heap.get? b=some o:=fun b o e=>(I.bs b o e).1
theorem Inv.mod (I:Inv X pins σ H s):Mod X.K X.mg X.base:=I.ok.mod
theorem Inv.kIn (I:Inv X pins σ H s):X.K.In s.heap:=I.ok.mod.kin.keeps I.bk
theorem Inv.lt (I:Inv X pins σ H s):X.env.locals < s.heap.objs.size:=let ⟨_,hn,_⟩:=I.loc;hn.lt
theorem Inv.sz (I:Inv X pins σ H s):X.s₀.heap.objs.size≤s.heap.objs.size:=yi I.ok.above (Nat.le_of_lt I.lt)
theorem Inv.nofs (I:Inv X pins σ H s) {a:Addr} (h:s.heap.objs.size≤a):a∉X.fs:=fun hb=>by
 obtain ⟨_,o,ho,_⟩:=I.ok.funs.mem hb
 exact absurd (yj (Heap.lt_size ho) (yi I.sz h)) (Nat.lt_irrefl _)
theorem Inv.cne (I:Inv X pins σ H s):∀ x c,X.env.cells.lookup x=some c→c≠X.env.locals:=fun x c e z=>by
 obtain ⟨v,o,ho,hd⟩:=I.cell x c e
 obtain ⟨m,⟨o',es,ep,ho',hd',_⟩,_⟩:=I.loc
 rw [z,ho'] at ho;cases ho;rw [hd'] at hd;cases hd
theorem Inv.funs (I:Inv X pins σ H s):s.heap.FunFrames X.base X.outer:=by
 have all:∀ (l:List Env),(∀ b∈frs l,b∈X.fs)→X.s₀.heap.FunFrames X.base l→s.heap.FunFrames X.base l:=by
  intro l
  induction l with
  | nil=>intro _ _;trivial
  | cons env r ih =>
   intro hs hl
   obtain ⟨hk,⟨L,o,hf,hn,ho,hd⟩,hr⟩:=hl
   have hL:L∈X.fs:=hs L (by unfold frs;rw [List.filterMap_cons,hf];exact List.mem_cons_self)
   obtain ⟨sl,e⟩:=I.base.slot L o ho (I.ok.frf L hL) hL fun z=>I.ok.exfs L z hL
   exact ⟨hk,⟨L,_,hf,hn,e,hd⟩,ih (fun b hb=>hs b (by unfold frs;rw [List.filterMap_cons,hf];exact List.mem_cons_of_mem _ hb)) hr⟩
 exact all X.outer (fun _ hb=>hb) I.ok.funs
theorem Inv.stack (I:Inv X pins σ H s):s.heap.FunFrames X.base X.stack:=by
 rcases I.ok.stk with e | ⟨e,hf⟩
 ·rw [e];exact I.funs
 ·rw [e]
  obtain ⟨m,hn,_⟩:=I.loc
  refine .cons (by rw [I.ok.kind];decide) hf hn ?_ I.funs
  exact Heap.get?_none_of_le (yi I.ok.bsz I.ok.above)
theorem Inv.stkSub (I:Inv X pins σ H s):∀ b∈frs X.stack,b∈X.env.locals::X.fs:=fun b hb=>by
 rcases I.ok.stk with e | ⟨e,hf⟩
 ·rw [e] at hb;exact List.mem_cons_of_mem _ hb
 ·rw [e] at hb
  unfold frs at hb
  rw [List.filterMap_cons,hf] at hb
  exact hb
theorem Inv.stkFree (I:Inv X pins σ H s):∀ b∈frs X.stack,H b=none:=fun b hb=>by
 rcases List.mem_cons.mp (I.stkSub b hb) with e | hb
 ·rw [e];exact I.free
 ·obtain ⟨_,o,ho,_⟩:=I.ok.funs.mem hb
  exact I.base.free b o ho (I.ok.frf b hb) fun z=>I.ok.exfs b z hb
theorem Inv.step {g':Array GenState} {t':Nat} {d':Drawn} {ch:List Addr} (I:Inv X pins σ H s)
  (hch:∀ b∈ch,(b∈X.ex∨X.s₀.heap.objs.size≤b)∧b≠X.env.locals∧(∀ x c,X.env.cells.lookup x=some c→c≠b)∧∀ p∈X.pn++pins,p.1≠b)
  (keep:∀ b o,b≠X.env.locals→b∉X.fs→b∉ch→s.heap.get? b=some o→H b=none→h'.get? b=some o)
  (slot:∀ b o,b≠X.env.locals→b∈X.fs→b∉ch→s.heap.get? b=some o→H b=none→∃ sl,h'.get? b=some { o with slots:=sl }) (free:∀ b o,b∉ch→s.heap.get? b=some o→H b=none→H' b=none)
  (there:∀ b o,b∉ch→s.heap.get? b=some o→∃ o',h'.get? b=some o')
  (tups:∀ b xs,H b=some (.tup xs)→H' b=some (.tup xs)) (frzs:∀ b o u,H b=some (.frz o u)→H' b=some (.frz o u)) (tbls:∀ b ps,H b=some (.tbl ps)→∃ more,H' b=some (.tbl (ps++more)))
  (ns:∀ m,s.heap.Ns X.env.locals m→h'.Ns X.env.locals m) (hok:HOk X.prog X.w H' h') (hg:AllBare g') :
  Inv X pins σ H' { s with heap:=h',gens:=g',drawn:=d',toks:=t' }:=by
 have neL:∀ b o,X.s₀.heap.get? b=some o→b≠X.env.locals:=fun b o e=>Nat.ne_of_lt (yj (Heap.lt_size e) I.ok.above)
 have neC:∀ b o,X.s₀.heap.get? b=some o→b∉X.ex→b∉ch:=fun b o e hx hb=>by
  rcases (hch b hb).1 with z | z
  ·exact hx z
  ·exact absurd (yj (Heap.lt_size e) z) (Nat.lt_irrefl _)
 have cellK:∀ x c,X.env.cells.lookup x=some c→∀ v,s.heap.IsCell c v→h'.IsCell c v:=fun x c e v ⟨o,ho,hd⟩=>by
  have nch:c∉ch:=fun z=>(hch c z).2.2.1 x c e rfl
  by_cases hc:c∈X.fs
  ·obtain ⟨sl,q⟩:=slot c o (I.cne x c e) hc nch ho (I.freeC x c e)
   exact ⟨_,q,hd⟩
  ·exact ⟨o,keep c o (I.cne x c e) hc nch ho (I.freeC x c e),hd⟩
 refine ⟨I.ok,I.os,hg,⟨fun b o e n hb hx=>?_,fun b o e n hb hx=>?_,fun b o e n hx=>?_,fun b o e hx=>?_,fun b xs e=>tups b xs (I.base.tups b xs e),fun b o xs e=>frzs b o xs (I.base.frzs b o xs e),fun b ps e=>?_⟩,?_,fun x c e=>?_,?_,fun x c e=>?_,fun p hp=>?_,hok,I.len⟩
 ·exact keep b o (neL b o e) hb (neC b o e hx) (I.base.keep b o e n hb hx) (I.base.free b o e n hx)
 ·obtain ⟨sl,e1⟩:=I.base.slot b o e n hb hx
  obtain ⟨sl',e2⟩:=slot b _ (neL b o e) hb (neC b o e hx) e1 (I.base.free b o e n hx)
  exact ⟨sl',e2⟩
 ·obtain ⟨o',e1⟩:=I.base.there b o e hx
  exact free b o' (neC b o e hx) e1 (I.base.free b o e n hx)
 ·obtain ⟨o',e1⟩:=I.base.there b o e hx
  exact there b o' (neC b o e hx) e1
 ·obtain ⟨m1,e1⟩:=I.base.tbls b ps e
  obtain ⟨m2,e2⟩:=tbls b _ e1
  exact ⟨m1++m2,by rw [e2,Array.append_assoc]⟩
 ·obtain ⟨m,hn,hl⟩:=I.loc
  refine ⟨m,ns m hn,fun i x v e1 e2 e3=>?_⟩
  obtain ⟨u,r,l⟩:=hl i x v e1 e2 e3
  refine ⟨u,r,?_⟩
  rcases l with l | ⟨k,c,e,z⟩
  ·exact .inl l
  ·exact .inr ⟨k,c,e,cellK x c e _ z⟩
 ·obtain ⟨v,z⟩:=I.cell x c e
  exact ⟨v,cellK x c e v z⟩
 ·obtain ⟨m,⟨o,_,_,ho,_⟩,_⟩:=I.loc
  exact free _ o (fun z=>(hch _ z).2.1 rfl) ho I.free
 ·obtain ⟨v,o,ho,hd⟩:=I.cell x c e
  exact free c o (fun z=>(hch c z).2.2.1 x c e rfl) ho (I.freeC x c e)
 ·obtain ⟨e,n,ne,nf,d⟩:=I.pin p hp
  have nch:p.1∉ch:=fun z=>(hch p.1 z).2.2.2 p hp rfl
  exact ⟨keep p.1 p.2 ne nf nch e n,free p.1 p.2 nch e n,ne,nf,d⟩
theorem Inv.un {t':Nat} (I:Inv X pins σ H s) (u:Un X.fs [] H H' s.heap h') (hok:HOk X.prog X.w H' h'):Inv X pins σ H' { s with heap:=h',toks:=t' }:=by
 obtain ⟨m,⟨o,es,ep,ho,r⟩,_⟩:=id I.loc
 obtain ⟨sl,hL⟩:=u.any ho I.free (by simp)
 exact I.step (g':=s.gens) (d':=s.drawn) (ch:=[]) (fun _ z=>nomatch z) (fun b o _ hb _ e n=>u.keep b o e n hb (by simp)) (fun b o _ hb _ e n=>u.slot b o e n hb (by simp)) (fun b o _ e n=>u.free b o e n (by simp)) (fun b o _ e=>u.there b o e (by simp)) u.tups u.frzs u.tbls (fun m' hm=>by
  obtain ⟨o',es',ep',ho',r'⟩:=hm
  rw [ho] at ho';cases ho'
  exact ⟨_,es',ep',hL,r'⟩) hok I.bare
theorem Inv.call {g':Array GenState} {t':Nat} {d':Drawn} {ch:List Addr} (I:Inv X pins σ H s) (u:Un (frs X.stack) ch H H' s.heap h') (hok:HOk X.prog X.w H' h') (hg:AllBare g')
  (hch:∀ b∈ch,(b∈X.ex∨X.s₀.heap.objs.size≤b)∧b≠X.env.locals∧(∀ x c,X.env.cells.lookup x=some c→c≠b)∧∀ p∈X.pn++pins,p.1≠b) :
  Inv X pins σ H' { s with heap:=h',gens:=g',drawn:=d',toks:=t' }:=by
 obtain ⟨m,⟨o,es,ep,ho,r⟩,_⟩:=id I.loc
 obtain ⟨sl,hL⟩:=u.any ho I.free fun z=>(hch _ z).2.1 rfl
 exact I.step (ch:=ch) hch (fun b o hL hb hc e n=>u.keep b o e n (fun z=>(List.mem_cons.mp (I.stkSub b z)).elim hL hb) hc) (fun b o _ _ hc e n=>u.any e n hc) (fun b o hc e n=>u.free b o e n hc) (fun b o hc e=>u.there b o e hc) u.tups u.frzs u.tbls (fun m' hm=>by
  obtain ⟨o',es',ep',ho',r'⟩:=hm
  rw [ho] at ho';cases ho'
  exact ⟨_,es',ep',hL,r'⟩) hok hg
theorem Inv.turned {t':Nat} {it:Addr} (I:Inv X pins σ H s) (k:∀ b o,b≠it→s.heap.get? b=some o→h'.get? b=some o) (hn:H it=none) (hL:it≠X.env.locals)
  (h1:it∈X.ex∨X.s₀.heap.objs.size≤it) (h2:∀ x c,X.env.cells.lookup x=some c→c≠it) (h3:∀ p∈X.pn++pins,p.1≠it):Inv X pins σ H { s with heap:=h',toks:=t' }:=by
 have nit:∀ b u,H b=some u→b≠it:=fun b u e z=>by rw [z,hn] at e;cases e
 refine I.step (g':=s.gens) (d':=s.drawn) (ch:=[it]) (fun b hb=>?_) (fun b o _ _ hc e _=>k b o (fun z=>hc (by simp [z])) e) (fun b o _ _ hc e _=>⟨o.slots,k b o (fun z=>hc (by simp [z])) e⟩) (fun _ _ _ _ n=>n)
  (fun b o hc e=>⟨o,k b o (fun z=>hc (by simp [z])) e⟩) (fun _ _ e=>e) (fun _ _ _ e=>e) (fun b ps e=>⟨#[],by rw [e];simp⟩) (fun m hm=>?_) (fun b u e=>?_) I.bare
 ·have e:b=it:=by simpa using hb
  subst e
  exact ⟨h1,hL,h2,h3⟩
 ·obtain ⟨o,es,ep,ho,r⟩:=hm
  exact ⟨o,es,ep,k _ o (Ne.symm hL) ho,r⟩
 ·refine (I.hok b u e).stay (fun c v hc q=>k c v ?_ q) (fun _ q=>q) fun _ _ q=>q
  rcases hc with z | z
  ·rw [z];exact nit b u e
  ·exact nit c _ z
theorem Inv.tok (I:Inv X pins σ H s) (t:Nat):Inv X pins σ H { s with toks:=t }:=I.un (h':=s.heap) (t':=t) Un.refl I.hok
theorem Inv.kept {t':Nat} (I:Inv X pins σ H s) (k:∀ b u,s.heap.get? b=some u→h'.get? b=some u):Inv X pins σ H { s with heap:=h',toks:=t' }:=I.un (Un.kept k) (I.hok.kept k)
theorem Inv.laid {a:Addr} {o:HO} {t':Nat} (I:Inv X pins σ H s) (k:∀ b u,s.heap.get? b=some u→h'.get? b=some u) (hp:s.heap.objs.size≤a) (new:ObjOk X.prog X.w (upd H a o) h' a o) :
  Inv X pins σ (upd H a o) { s with heap:=h',toks:=t' }:=I.un (Un.laid k hp (I.hok.fresh hp)) (I.hok.laid k hp new)
theorem Inv.write {x e:Addr} {o:HO} {t':Nat} (I:Inv X pins σ H s) (mu:Mut (H x)) (he:e=x∨H e=some (.own x)) (k:∀ b u,b≠e→s.heap.get? b=some u→h'.get? b=some u) (heo:∃ u,h'.get? e=some u)
  (new:ObjOk X.prog X.w (upd H x o) h' x o):Inv X pins σ (upd H x o) { s with heap:=h',toks:=t' }:=I.un (Un.write mu he k heo) (I.hok.write mu he k heo new)
theorem Inv.weak {σ':List (Option V)} (I:Inv X pins σ H s) (hl:σ'.length=σ.length) (w:∀ (i:Nat) v,σ'[i]?=some (some v)→σ[i]?=some (some v)):Inv X pins σ' H s:=
 ⟨I.ok,I.os,I.bare,I.base,let ⟨m,hn,hl'⟩:=I.loc;⟨m,hn,fun i x v e1 e2 e3=>hl' i x v e1 (w i v e2) e3⟩,I.cell,I.free,I.freeC,I.pin,I.hok,hl.trans I.len⟩
theorem Inv.pins_of {pins':List (Addr×Obj)} (I:Inv X pins σ H s) (h:∀ p∈pins',s.heap.get? p.1=some p.2∧H p.1=none∧p.1≠X.env.locals∧p.1∉X.fs∧∀ v,p.2.data≠.cell v):Inv X pins' σ H s:=
 ⟨I.ok,I.os,I.bare,I.base,I.loc,I.cell,I.free,I.freeC,fun p hp=>(List.mem_append.mp hp).elim (fun z=>I.pin p (List.mem_append_left _ z)) (h p),I.hok,I.len⟩
theorem zJ {N:List Str} (hN:N.Nodup) {i j:Nat} {x:Str} (a:N[i]?=some x) (b:N[j]?=some x):i=j:=by
 obtain ⟨h1,e1⟩:=yc.mp a
 obtain ⟨h2,e2⟩:=yc.mp b
 exact (List.getElem_inj hN).mp (e1.trans e2.symm)
theorem qb1 {M:Model} {A:Around} {E:Value→Shared→Prop} {i:Nat} {x:Str} {v:V} {u:Value} {Q:Unit→Shared→Prop} (I:Inv X pins σ H s) (hN:X.N.Nodup) (hi:X.N[i]?=some x) (hx:Loc X.env.scope x) (r:RelV v u)
  (h:∀ s',Inv X pins (σ.set i (some v)) H s'→(∃ a,Heap.SameBut a s.heap s'.heap∧(a=X.env.locals∨X.env.cells.lookup x=some a))→Q () s') (hf:X.fn x=true∨X.env.scope.names.lookup x=some .local:=by first | exact .inl rfl | exact .inr rfl | assumption):wpAny M A (storeName X.env x u) Q E s:=by
 obtain ⟨m,hn,hl⟩:=id I.loc
 have hcls:(X.env.scope.kind==.class||(X.env.scope.kind==.module&&X.env.locals != X.env.globals))=false:=by rw [I.ok.kind];rfl
 have hiσ:i < σ.length:=by rw [I.len];exact (yc.mp hi).1
 have cne:=I.cne
 have tracked:∀ {a:Addr} {h':Heap},(∃ o,s.heap.get? a=some o∧H a=none)→Heap.SameBut a s.heap h'→HOk X.prog X.w H h':=fun {a h'} ha hs b ob e=>by
  obtain ⟨_,_,hfree⟩:=ha
  refine (I.hok b ob e).stay (fun c w' hc q=>(hs.2 c ?_).trans q) (fun _ q=>q) fun _ _ q=>q
  rintro rfl
  rcases hc with rfl | hc
  ·rw [hfree] at e;cases e
  ·rw [hfree] at hc;cases hc
 rcases hx with hk | hk
 ·refine wpAny_storeName_local hk hn (fun h' hn' hs=>?_) hcls
  obtain ⟨oL,_,_,hoL,_⟩:=id hn
  refine h _ ⟨I.ok,I.os,I.bare,⟨fun b o e n hb hx=>?_,fun b o e n hb hx=>?_,I.base.free,fun b o e hx=>?_,I.base.tups,I.base.frzs,I.base.tbls⟩,⟨_,hn',fun j y v' e1 e2 e3=>?_⟩,fun y c e=>?_,I.free,I.freeC,fun p hp=>?_,tracked ⟨oL,hoL,I.free⟩ hs,by simpa using I.len⟩ ⟨_,hs,.inl rfl⟩
  ·exact (hs.2 b (Nat.ne_of_lt (yj (Heap.lt_size e) I.ok.above))).trans (I.base.keep b o e n hb hx)
  ·obtain ⟨sl,e1⟩:=I.base.slot b o e n hb hx
   exact ⟨sl,(hs.2 b (Nat.ne_of_lt (yj (Heap.lt_size e) I.ok.above))).trans e1⟩
  ·obtain ⟨o',e1⟩:=I.base.there b o e hx
   exact ⟨o',(hs.2 b (Nat.ne_of_lt (yj (Heap.lt_size e) I.ok.above))).trans e1⟩
  ·by_cases hj:j=i
   ·subst hj
    rw [hi] at e1;cases e1
    rw [List.getElem?_set_self hiσ] at e2
    cases e2
    exact ⟨u,r,.inl ⟨hk,by simp⟩⟩
   ·rw [List.getElem?_set_ne (Ne.symm hj)] at e2
    obtain ⟨u',r',q⟩:=hl j y v' e1 e2 e3
    refine ⟨u',r',?_⟩
    rcases q with ⟨k,e⟩ | ⟨k,c,e,z⟩
    ·refine .inl ⟨k,?_⟩
     have:y≠x:=fun e=>hj (zJ hN e1 (e ▸ hi))
     simp [this,e]
    ·exact .inr ⟨k,c,e,z.sameBut hs (cne y c e)⟩
  ·obtain ⟨w',z⟩:=I.cell y c e
   exact ⟨w',z.sameBut hs (cne y c e)⟩
  ·obtain ⟨e,n,ne,nf,d⟩:=I.pin p hp
   exact ⟨(hs.2 p.1 ne).trans e,n,ne,nf,d⟩
 ·have hfn:X.fn x=true:=by
   rcases hf with z | z
   ·exact z
   ·rw [z] at hk;cases hk
  obtain ⟨c,hc⟩:=I.ok.has x (.inl hk)
  obtain ⟨w',z⟩:=I.cell x c hc
  refine wpAny_storeName_cell I.ok.kind hk hc z (fun h' hc' hs=>?_)
  obtain ⟨oc,hoc,hocd⟩:=id z
  refine h { s with heap:=h' } ⟨I.ok,I.os,I.bare,⟨fun b o e n hb hx=>?_,fun b o e n hb hx=>?_,I.base.free,fun b o e hx=>?_,I.base.tups,I.base.frzs,I.base.tbls⟩,⟨m,hn.sameBut hs (Ne.symm (cne x c hc)),fun j y v' e1 e2 e3=>?_⟩,fun y c' e=>?_,I.free,I.freeC,fun p hp=>?_,tracked ⟨oc,hoc,I.freeC x c hc⟩ hs,by simpa using I.len⟩ ⟨c,hs,.inr hc⟩
  ·exact (hs.2 b (Nat.ne_of_lt (yj (Heap.lt_size e) (I.ok.cab x c hfn hc)))).trans (I.base.keep b o e n hb hx)
  ·obtain ⟨sl,e1⟩:=I.base.slot b o e n hb hx
   exact ⟨sl,(hs.2 b (Nat.ne_of_lt (yj (Heap.lt_size e) (I.ok.cab x c hfn hc)))).trans e1⟩
  ·obtain ⟨o',e1⟩:=I.base.there b o e hx
   exact ⟨o',(hs.2 b (Nat.ne_of_lt (yj (Heap.lt_size e) (I.ok.cab x c hfn hc)))).trans e1⟩
  ·by_cases hj:j=i
   ·subst hj
    rw [hi] at e1;cases e1
    rw [List.getElem?_set_self hiσ] at e2
    cases e2
    exact ⟨u,r,.inr ⟨.inl hk,c,hc,hc'⟩⟩
   ·rw [List.getElem?_set_ne (Ne.symm hj)] at e2
    obtain ⟨u',r',q⟩:=hl j y v' e1 e2 e3
    refine ⟨u',r',?_⟩
    rcases q with q | ⟨k,c',e,z'⟩
    ·exact .inl q
    ·refine .inr ⟨k,c',e,z'.sameBut hs ?_⟩
     rintro rfl
     exact hj (zJ hN e1 (I.ok.inj _ _ _ e hc ▸ hi))
  ·by_cases hcc:c'=c
   ·subst hcc;exact ⟨_,hc'⟩
   ·obtain ⟨w2,z2⟩:=I.cell y c' e
    exact ⟨w2,z2.sameBut hs hcc⟩
  ·obtain ⟨e,n,ne,nf,d⟩:=I.pin p hp
   refine ⟨(hs.2 p.1 ?_).trans e,n,ne,nf,d⟩
   intro q
   rw [q,hoc] at e
   have q':oc=p.2:=ym e
   exact d w' (by rw [← q'];exact hocd)
theorem qa8 {M:Model} {A:Around} {E:Value→Shared→Prop} {i:Nat} {x:Str} {v:V} {u:Value} {Q:Unit→Shared→Prop} (I:Inv X pins σ H s) (hN:X.N.Nodup) (hi:X.N[i]?=some x) (hx:Loc X.env.scope x) (r:RelV v u)
  (h:∀ s',Inv X pins (σ.set i (some v)) H s'→Q () s') (hf:X.fn x=true∨X.env.scope.names.lookup x=some .local:=by first | exact .inl rfl | exact .inr rfl | assumption):wpAny M A (storeName X.env x u) Q E s:=
 qb1 I hN hi hx r (fun s' I' _=>h s' I') hf
theorem Inv.call' {s':Shared} {ch:List Addr} (I:Inv X pins σ H s) (ho:s'.os=s.os) (u:Un (frs X.stack) ch H H' s.heap s'.heap) (hok:HOk X.prog X.w H' s'.heap) (hg:AllBare s'.gens)
  (hch:∀ b∈ch,(b∈X.ex∨X.s₀.heap.objs.size≤b)∧b≠X.env.locals∧(∀ x c,X.env.cells.lookup x=some c→c≠b)∧∀ p∈X.pn++pins,p.1≠b):Inv X pins σ H' s':=by
 obtain ⟨h',g',d',t',o'⟩:=s'
 have e:o'=s.os:=ho
 subst e
 exact I.call (g':=g') (t':=t') (d':=d') u hok hg hch
end
abbrev XK:=Value→Option Addr→Hp→Prop
abbrev St:=List (Option V)
abbrev VK:=V→Hp→Prop
abbrev TE:=St→Hp→VK→Prop
abbrev TT:=St→Hp→(Bool→Hp→Prop)→Prop
abbrev TA:=St→Hp→(List V→Hp→Prop)→Prop
structure Ends where
 nx:St→Hp→Prop
 rt:VK
 bk:St→Hp→Prop:=fun _ _=>False
 ct:St→Hp→Prop:=fun _ _=>False
abbrev TS:=Ends→St→Hp→Prop
def EP (X:Cx) (pins:List (Addr×Obj)) (σ:St) (Q:VK) (u:Value) (s':Shared):Prop:=∃ v H',Inv X pins σ H' s'∧RelV v u∧Q v H'
def TP (X:Cx) (pins:List (Addr×Obj)) (σ:St) (Q:Bool→Hp→Prop) (b:Bool) (s':Shared):Prop:=∃ H',Inv X pins σ H' s'∧Q b H'
def AP (X:Cx) (pins:List (Addr×Obj)) (σ:St) (Q:List V→Hp→Prop) (us:List Value) (s':Shared):Prop:=∃ vs H',Inv X pins σ H' s'∧Vals vs us∧Q vs H'
def SP (X:Cx) (pins:List (Addr×Obj)) (D:Ends) (f:Flow) (s':Shared):Prop:=
 match f with
 | .next=>∃ σ' H',Inv X pins σ' H' s'∧D.nx σ' H'
 | .brk=>∃ σ' H',Inv X pins σ' H' s'∧D.bk σ' H'
 | .cont=>∃ σ' H',Inv X pins σ' H' s'∧D.ct σ' H'
 | .ret u=>∃ v σ' H',Inv X pins σ' H' s'∧RelV v u∧D.rt v H'
def PE (X:Cx) (e:Expr) (t:TE):Prop:=
 ∀ (pins:List (Addr×Obj)) (s:Shared) (σ:St) (H:Hp) (Q:VK),Inv X pins σ H s→t σ H Q→wpAny (model X.prog X.w) X.A (eval e X.env) (EP X pins σ Q) X.xe s
def PT (X:Cx) (e:Expr) (t:TT):Prop:=
 ∀ (pins:List (Addr×Obj)) (s:Shared) (σ:St) (H:Hp) (Q:Bool→Hp→Prop),Inv X pins σ H s→t σ H Q→wpAny (model X.prog X.w) X.A (isTrue e X.env (eval e X.env)) (TP X pins σ Q) X.xe s
def PW (X:Cx) (e:Expr) (t:TT):Prop:=
 ∀ (whole:Sem Value) (pins:List (Addr×Obj)) (s:Shared) (σ:St) (H:Hp) (Q:Bool→Hp→Prop),Inv X pins σ H s→t σ H Q→wpAny (model X.prog X.w) X.A (isTrue e X.env whole) (TP X pins σ Q) X.xe s
theorem PW.pt {X:Cx} {e:Expr} {t:TT} (h:PW X e t):PT X e t:=h _
def PA (X:Cx) (es:List Expr) (t:TA):Prop:=
 ∀ (pos:Pos) (pins:List (Addr×Obj)) (s:Shared) (σ:St) (H:Hp) (Q:List V→Hp→Prop),Inv X pins σ H s→t σ H Q→wpAny (model X.prog X.w) X.A (spliced (backTo pos (starEach es X.env))) (AP X pins σ Q) X.xe s
def PS (X:Cx) (st:Stmt) (t:TS):Prop:=
 ∀ (pins:List (Addr×Obj)) (s:Shared) (σ:St) (H:Hp) (D:Ends),Inv X pins σ H s→t D σ H→wpAny (model X.prog X.w) X.A (exec st X.env) (SP X pins D) X.xe s
def PSs (X:Cx) (st:List Stmt) (t:TS):Prop:=
 ∀ (pins:List (Addr×Obj)) (s:Shared) (σ:St) (H:Hp) (D:Ends),Inv X pins σ H s→t D σ H→wpAny (model X.prog X.w) X.A (execs st X.env) (SP X pins D) X.xe s
theorem thn {α:Type} {t:Sem α} {Q Q':α→Shared→Prop} {M:Model} {A:Around} {E:Value→Shared→Prop} {s:Shared} (h:wpAny M A t Q E s) (hQ:∀ a s,Q a s→Q' a s):wpAny M A t Q' E s:=wpAny_mono h hQ fun _ _ x=>x
section
variable {X:Cx}
def qfH (i:Nat):TE:=fun σ H Q=>∃ v,σ[i]?=some (some v)∧Q v H
def tC (v:V):TE:=fun _ H Q=>Q v H
theorem pe_var {i:Nat} {x:Str} {pos:Pos} (hN:X.N[i]?=some x) (hv:Vis X.env.scope x) (hd:(x==("__debug__":Str))=false:=by decide) (hcd:(x==("__classdict__":Str))=false:=by decide):PE X (.Name x pos) (qfH i):=by
 intro pins s σ H Q I h
 obtain ⟨v,e,h⟩:=h
 obtain ⟨m,hn,hl⟩:=I.loc
 obtain ⟨u,r,l⟩:=hl i x v hN e hv
 have fin:EP X pins σ Q u s:=⟨v,H,I,r,h⟩
 rcases l with ⟨hk,hm⟩ | ⟨hk,c,hc,hcell⟩
 ·exact wpAny_Name (wpAny_loadName_local I.ok.kind hk hn hm fin) hd
 ·rcases hk with hk | hk
  ·exact wpAny_Name (wpAny_loadName_cell I.ok.kind hk hc hcell fin) hd
  ·exact wpAny_Name (wpAny_loadName_free I.ok.kind hk hc hcell fin hcd) hd
theorem qg {i j pos}:PE X (.Constant (.int i) j pos) (tC (.int i)):=fun _ _ _ H _ I h=>wpAny_Constant_int ⟨.int i,H,I.tok _,⟨_,rfl⟩,h⟩
theorem jp {b j pos}:PE X (.Constant (.bool b) j pos) (tC (.bl b)):=fun _ _ _ H _ I h=>Constant_bool ⟨.bl b,H,I,rfl,h⟩
theorem qdN {j pos}:PE X (.Constant .none j pos) (tC .non):=fun _ _ _ H _ I h=>Constant_none ⟨.non,H,I,rfl,h⟩
theorem j8 {x j pos}:PE X (.Constant (.str x) j pos) (tC (.str x)):=fun _ _ _ H _ I h=>Calls.Constant_str ⟨.str x,H,I.tok _,⟨_,rfl⟩,h⟩
def Gl (X:Cx) (x:Str):Prop:=X.env.kindOf x=some .globalImplicit
theorem qaa {E:Value→Shared→Prop} {pins:List (Addr×Obj)} {s:Shared} {σ:St} {H:Hp} {x:Str} {u:Value} {pos:Pos} {Q:Value→Shared→Prop} (I:Inv X pins σ H s) (hg:Gl X x) (hm:X.mg x=some u) (h:Q u s)
  (hd:(x==("__debug__":Str))=false:=by decide):wpAny (model X.prog X.w) X.A (eval (.Name x pos) X.env) Q E s:=
 Calls.Name_function_global I.ok.kind hg (Calls.loadGlobal_global (by rw [I.ok.glob];exact I.mod.glob.keeps I.bk) hm h) hd
theorem qaC {E:Value→Shared→Prop} {pins:List (Addr×Obj)} {s:Shared} {σ:St} {H:Hp} {x:Str} {u:Value} {pos:Pos} {Q:Value→Shared→Prop} (I:Inv X pins σ H s) (hg:Gl X x) (hm:X.mg x=none) (hv:bootBuiltins x=some u) (h:Q u s)
  (hn:x≠"__name__":=by decide) (hd:(x==("__debug__":Str))=false:=by decide):wpAny (model X.prog X.w) X.A (eval (.Name x pos) X.env) Q E s:=by
 obtain ⟨mb,h1,h2⟩:=I.mod.blt
 exact Calls.Name_function_global I.ok.kind hg (Calls.loadGlobal_builtin (by rw [I.ok.glob];exact I.mod.glob.keeps I.bk) hm (by rw [I.ok.blt];exact h1.keeps I.bk) ((h2 x hn).trans hv) h) hd
theorem qcB {x:Str} {v:V} {u:Value} {pos:Pos} (hg:Gl X x) (hm:X.mg x=some u) (r:RelV v u) (hd:(x==("__debug__":Str))=false:=by decide):PE X (.Name x pos) (tC v):=
 fun _ _ _ H _ I h=>qaa I hg hm ⟨v,H,I,r,h⟩ hd
theorem j6 {x:Str} {v:V} {u:Value} {pos:Pos} (hg:Gl X x) (hm:X.mg x=none) (hv:bootBuiltins x=some u) (r:RelV v u) (hn:x≠"__name__":=by decide) (hd:(x==("__debug__":Str))=false:=by decide):PE X (.Name x pos) (tC v):=
 fun _ _ _ H _ I h=>qaC I hg hm hv ⟨v,H,I,r,h⟩ hn hd
variable {a b:Expr} {ta tb:TE} {pos:Pos}
def tB (t:TE):TT:=fun σ H Q=>t σ H fun x H1=>∃ c,x=.bl c∧Q c H1
theorem qK {e:Expr} {t:TE} (h:PE X e t) (he:∀ whole,isTrue e X.env whole=(do let v ← whole;standAt e.pos;holding [v] (truthy v)):=by intro _;rfl):PT X e (tB t):=by
 intro pins s σ H Q I hw
 refine isTrue_plain (thn (h pins s σ H _ I hw) fun v s1 ⟨x,H1,I1,r1,q1⟩=>?_) (he _)
 obtain ⟨d,rfl,q⟩:=q1
 cases r1
 exact wpAny_truthy_bool ⟨H1,I1,q⟩
variable {tA tB':TT} {rest:List Expr}
def qgO (t u:TT):TT:=fun σ H Q=>t σ H fun c H1=>if c=true then u σ H1 Q else Q false H1
def tOr (t u:TT):TT:=fun σ H Q=>t σ H fun c H1=>if c=true then Q true H1 else u σ H1 Q
def qgP (t:TT):TT:=fun σ H Q=>t σ H fun c H1=>Q (!c) H1
theorem qab (ha:PT X a tA):PW X (.BoolOp .And [a] pos) tA:=by
 intro wh pins s σ H Q I h
 refine isTrue_and (thn (ha pins s σ H Q I h) fun c s1 e=>?_)
 cases c with
 | true=>exact isTrue_and_nil e
 | false=>exact e
theorem qau (ha:PT X a tA):PW X (.BoolOp .Or [a] pos) tA:=by
 intro wh pins s σ H Q I h
 refine isTrue_or (thn (ha pins s σ H Q I h) fun c s1 e=>?_)
 cases c with
 | false=>exact isTrue_or_nil e
 | true=>exact e
theorem qav (ha:PT X a tA) (hb:PW X (.BoolOp .And (b::rest) pos) tB'):PW X (.BoolOp .And (a::b::rest) pos) (qgO tA tB'):=by
 intro wh pins s σ H Q I h
 refine isTrue_and (thn (ha pins s σ H _ I h) fun c s1 ⟨H1,I1,q1⟩=>?_)
 cases c with
 | true=>exact hb wh pins s1 σ H1 Q I1 q1
 | false=>exact ⟨H1,I1,q1⟩
theorem qaD (ha:PT X a tA) (hb:PW X (.BoolOp .Or (b::rest) pos) tB'):PW X (.BoolOp .Or (a::b::rest) pos) (tOr tA tB'):=by
 intro wh pins s σ H Q I h
 refine isTrue_or (thn (ha pins s σ H _ I h) fun c s1 ⟨H1,I1,q1⟩=>?_)
 cases c with
 | true=>exact ⟨H1,I1,q1⟩
 | false=>exact hb wh pins s1 σ H1 Q I1 q1
theorem qZ (ha:PT X a tA):PT X (.UnaryOp .Not a pos) (qgP tA):=by
 intro pins s σ H Q I h
 exact isTrue_not (ha pins s σ H (fun c H1=>Q (!c) H1) I h)
def qfI (ta tb:TE):TE:=fun σ H Q=>ta σ H fun x H1=>∃ c,x=.bl c∧if c=true then tb σ H1 Q else Q (.bl false) H1
def qgQ (ta tb:TE):TE:=fun σ H Q=>ta σ H fun x H1=>∃ c,x=.bl c∧if c=true then Q (.bl true) H1 else tb σ H1 Q
def qfJ (ta:TE):TE:=fun σ H Q=>ta σ H fun x H1=>∃ c,x=.bl c∧Q (.bl (!c)) H1
theorem qa0 {op} {t:TE} (h:PE X a t):PE X (.BoolOp op [a] pos) t:=fun pins s σ H Q I hw=>BoolOp_one (h pins s σ H Q I hw)
theorem qa1 (ha:PE X a ta) (hb:PE X (.BoolOp .And (b::rest) pos) tb):PE X (.BoolOp .And (a::b::rest) pos) (qfI ta tb):=by
 intro pins s σ H Q I h
 refine BoolOp_and (thn (ha pins s σ H _ I h) fun v s1 ⟨x,H1,I1,r1,q1⟩=>?_)
 obtain ⟨c,rfl,q1⟩:=q1
 cases r1
 refine wpAny_truthy_bool ?_
 cases c with
 | true=>exact hb pins s1 σ H1 Q I1 q1
 | false=>exact ⟨.bl false,H1,I1,rfl,q1⟩
theorem pe_or (ha:PE X a ta) (hb:PE X (.BoolOp .Or (b::rest) pos) tb):PE X (.BoolOp .Or (a::b::rest) pos) (qgQ ta tb):=by
 intro pins s σ H Q I h
 refine BoolOp_or (thn (ha pins s σ H _ I h) fun v s1 ⟨x,H1,I1,r1,q1⟩=>?_)
 obtain ⟨c,rfl,q1⟩:=q1
 cases r1
 refine wpAny_truthy_bool ?_
 cases c with
 | false=>exact hb pins s1 σ H1 Q I1 q1
 | true=>exact ⟨.bl true,H1,I1,rfl,q1⟩
theorem qeL (ha:PE X a ta):PE X (.UnaryOp .Not a pos) (qfJ ta):=by
 intro pins s σ H Q I h
 refine UnaryOp_ (thn (ha pins s σ H _ I h) fun v s1 ⟨x,H1,I1,r1,q1⟩=>?_)
 obtain ⟨c,rfl,q1⟩:=q1
 cases r1
 exact not_of (wpAny_truthy_bool ⟨.bl (!c),H1,I1,rfl,q1⟩)
def tIf (t:TT) (ta tb:TE):TE:=fun σ H Q=>t σ H fun c H1=>if c=true then ta σ H1 Q else tb σ H1 Q
end
def SqL (K:yg) (H:Hp) (a:Addr) (xs:List V):Prop:=
 Rd H a (.lst xs) ∨
  ∃ (o:Obj) (its:Array Value) (n:Nat),K.lookup a=some o∧o.cls=.type "list"∧o.dict=none∧o.data=.seq its n∧its.size≤sizeLine∧Vals xs its.toList
def SqT (K:yg) (H:Hp) (a:Addr) (xs:List V):Prop:=
 Rd H a (.tup xs) ∨
  ∃ (o:Obj) (its:Array Value) (n:Nat),K.lookup a=some o∧o.cls=.type "tuple"∧o.data=.seq its n∧its.size≤sizeLine∧Vals xs its.toList
def absV:Value→Option V
 | .none=>some .non
 | .bool b=>some (.bl b)
 | .int i _=>some (.int i)
 | .str x _=>some (.str x)
 | .bytes b _=>some (.byt b)
 | .float b _=>some (.flt b)
 | .ref a=>some (.ref a)
 | .type n=>some (.ty n)
 | _=>none
theorem RelV.abs {x:V} {u:Value} (r:RelV x u):absV u=some x:=by
 cases x with
 | non=>cases r;rfl
 | bl _=>cases r;rfl
 | int _=>obtain ⟨t,rfl⟩:=r;rfl
 | str _=>obtain ⟨t,rfl⟩:=r;rfl
 | byt _=>obtain ⟨t,rfl⟩:=r;rfl
 | flt _=>obtain ⟨t,rfl⟩:=r;rfl
 | ref _=>cases r;rfl
 | ty _=>cases r;rfl
theorem RelV.inj {x y:V} {u:Value} (r:RelV x u) (q:RelV y u):x=y:=ym (r.abs.symm.trans q.abs)
theorem Vals.inj:∀ {xs ys:List V} {us:List Value},Vals xs us→Vals ys us→xs=ys
 | _,_,_,.nil,.nil=>rfl
 | _,_,_,.cons r t,.cons r' t'=>by rw [r.inj r',Vals.inj t t']
section
variable {X:Cx} {pins:List (Addr×Obj)} {σ:St} {H:Hp} {s:Shared} {a:Addr} {xs ys:List V}
theorem SqL.of {K:yg} (h:H a=some (.lst xs)):SqL K H a xs:=.inl (.inl h)
theorem SqT.of {K:yg} (h:H a=some (.tup xs)):SqT K H a xs:=.inl (.inl h)
theorem Inv.list (I:Inv X pins σ H s) (h:SqL X.K H a xs):∃ its:List Value,Vals xs its∧PlainL s.heap a its.toArray∧xs.length≤sizeLine:=by
 rcases h with h | ⟨o,its,n,hk,hc,hd,hs,hz,r⟩
 ·obtain ⟨z,its,n,r,e⟩:=h.ok I.hok
  exact ⟨its,r,⟨_,n,e,rfl,rfl,rfl⟩,z⟩
 ·refine ⟨its.toList,r,⟨o,n,I.kIn a o hk,hc,hd,by simpa using hs⟩,?_⟩
  have e:=r.length
  simp only [Array.length_toList] at e
  omega
theorem Inv.tuple (I:Inv X pins σ H s) (h:SqT X.K H a xs):∃ its:List Value,Vals xs its∧IsTup s.heap a its.toArray∧xs.length≤sizeLine:=by
 rcases h with h | ⟨o,its,n,hk,hc,hs,hz,r⟩
 ·obtain ⟨z,its,r,p⟩:=h.ok I.hok
  exact ⟨its,r,p,z⟩
 ·refine ⟨its.toList,r,⟨o,I.kIn a o hk,hc,n,by simpa using hs⟩,?_⟩
  have e:=r.length
  simp only [Array.length_toList] at e
  omega
theorem Inv.list_inj (I:Inv X pins σ H s) (h:SqL X.K H a xs) (h':SqL X.K H a ys):xs=ys:=by
 obtain ⟨its,r,⟨o,n,e,_,_,d⟩,_⟩:=I.list h
 obtain ⟨its',r',⟨o',n',e',_,_,d'⟩,_⟩:=I.list h'
 rw [e] at e';cases e'
 rw [d] at d'
 injection d' with d1 _
 have:its=its':=by simpa using congrArg Array.toList d1
 subst this
 exact r.inj r'
theorem Inv.tuple_inj (I:Inv X pins σ H s) (h:SqT X.K H a xs) (h':SqT X.K H a ys):xs=ys:=by
 obtain ⟨its,r,⟨o,e,_,n,d⟩,_⟩:=I.tuple h
 obtain ⟨its',r',⟨o',e',_,n',d'⟩,_⟩:=I.tuple h'
 rw [e] at e';cases e'
 rw [d] at d'
 injection d' with d1 _
 have:its=its':=by simpa using congrArg Array.toList d1
 subst this
 exact r.inj r'
end
abbrev Cx.wish (X:Cx) (E:Value→Shared→Prop):Cx:={ X with xe:=E }
abbrev Cx.nox (X:Cx):Cx:=X.wish fun _ _=>False
theorem Cx.Ok.wish {X:Cx} (ok:X.Ok) (E:Value→Shared→Prop):(X.wish E).Ok:=
 ⟨ok.mod,ok.kind,ok.glob,ok.blt,ok.above,ok.inj,ok.has,ok.cab,ok.hd,ok.frames,ok.stk,ok.exf,ok.bs,ok.bsz,ok.noex,ok.exfs,ok.funs,ok.frf⟩
theorem Cx.Ok.unwish {X:Cx} {E:Value→Shared→Prop} (ok:(X.wish E).Ok):X.Ok:=
 ⟨ok.mod,ok.kind,ok.glob,ok.blt,ok.above,ok.inj,ok.has,ok.cab,ok.hd,ok.frames,ok.stk,ok.exf,ok.bs,ok.bsz,ok.noex,ok.exfs,ok.funs,ok.frf⟩
section
variable {X:Cx} {pins:List (Addr×Obj)} {σ:St} {H:Hp} {s:Shared} {E:Value→Shared→Prop}
theorem Inv.wish (I:Inv X pins σ H s) (E:Value→Shared→Prop):Inv (X.wish E) pins σ H s:=⟨I.ok.wish E,I.os,I.bare,I.base,I.loc,I.cell,I.free,I.freeC,I.pin,I.hok,I.len⟩
theorem Inv.unwish (I:Inv (X.wish E) pins σ H s):Inv X pins σ H s:=⟨I.ok.unwish,I.os,I.bare,I.base,I.loc,I.cell,I.free,I.freeC,I.pin,I.hok,I.len⟩
theorem SP.unwish {D:Ends} {f:Flow} {s':Shared} (h:SP (X.wish E) pins D f s'):SP X pins D f s':=by
 cases f with
 | next=>obtain ⟨σ',H',I,q⟩:=h;exact ⟨σ',H',I.unwish,q⟩
 | brk=>obtain ⟨σ',H',I,q⟩:=h;exact ⟨σ',H',I.unwish,q⟩
 | cont=>obtain ⟨σ',H',I,q⟩:=h;exact ⟨σ',H',I.unwish,q⟩
 | ret u=>obtain ⟨v,σ',H',I,r,q⟩:=h;exact ⟨v,σ',H',I.unwish,r,q⟩
theorem PSs.nox {st:List Stmt} {t:TS} (h:PSs X.nox st t):PSs X st t:=fun pins s σ H D I hw =>
 wpAny_mono (h pins s σ H D (I.wish _) hw) (fun _ _ q=>q.unwish) fun _ _ z=>False.elim z
end
section
variable {X:Cx} {st:Stmt} {rest:List Stmt} {t u:TS} {e:Expr} {te:TE} {pos:Pos}
def qfK:TS:=fun D σ H=>D.nx σ H
def qgv (t u:TS):TS:=fun D σ H=>t { D with nx:=u D } σ H
theorem qq:PSs X [] qfK:=fun _ _ σ H _ I h=>wpAny_execs_nil ⟨σ,H,I,h⟩
theorem qb (h1:PS X st t) (h2:PSs X rest u):PSs X (st::rest) (qgv t u):=by
 intro pins s σ H D I h
 refine wpAny_execs_cons (thn (h1 pins s σ H { D with nx:=u D } I h) fun f s1 q=>?_)
 cases f with
 | next =>
  obtain ⟨σ',H',I',q⟩:=q
  exact h2 pins s1 σ' H' D I' q
 | ret v=>exact q
 | brk=>exact q
 | cont=>exact q
theorem qf (h1:PS X st t):PSs X [st] t:=by
 intro pins s σ H D I h
 refine wpAny_execs_cons (thn (h1 pins s σ H D I h) fun f s1 q=>?_)
 cases f with
 | next=>exact wpAny_execs_nil q
 | ret v=>exact q
 | brk=>exact q
 | cont=>exact q
theorem Inv.quiet {pins:List (Addr×Obj)} {σ:St} {H:Hp} {s:Shared} (I:Inv X pins σ H s):interactive X.env=false:=by simp [interactive,I.ok.kind]
def qfL (te:TE):TS:=fun D σ H=>te σ H fun _ H1=>D.nx σ H1
theorem qU (he:PE X e te) (hs:swapsWith e none pos.line X.env=pure false:=by rfl):PS X (.Expr e pos) (qfL te):=by
 intro pins s σ H D I h
 exact wpAny_Expr_any (thn (he pins s σ H _ I h) fun v s1 ⟨x,H1,I1,r1,q1⟩=>⟨σ,H1,I1,q1⟩) I.quiet hs
def qgR (te:TE):TS:=fun D σ H=>te σ H D.rt
theorem qp (he:PE X e te):PS X (.Return (some e) pos) (qgR te):=by
 intro pins s σ H D I h
 exact wpAny_Return_some (thn (he pins s σ H _ I h) fun v s1 ⟨x,H1,I1,r1,q1⟩=>⟨x,σ,H1,I1,r1,q1⟩)
def tRetN:TS:=fun D _ H=>D.rt .non H
def qgS (c:TT) (t u:TS):TS:=fun D σ H=>c σ H fun b H1=>if b=true then t D σ H1 else u D σ H1
theorem qL {c:Expr} {a b:List Stmt} {tc:TT} (hc:PT X c tc) (ha:PSs X a t) (hb:PSs X b u):PS X (.If c a b pos) (qgS tc t u):=by
 intro pins s σ H D I h
 refine wpAny_If (thn (hc pins s σ H _ I h) fun d s1 ⟨H1,I1,q1⟩=>?_)
 cases d with
 | true=>exact ha pins s1 σ H1 D I1 q1
 | false=>exact hb pins s1 σ H1 D I1 q1
end
abbrev TG:=V→St→Hp→(St→Hp→Prop)→Prop
abbrev TGs:=List V→St→Hp→(St→Hp→Prop)→Prop
def PG (X:Cx) (target:Expr) (t:TG):Prop:=
 ∀ (pins:List (Addr×Obj)) (s:Shared) (σ:St) (H:Hp) (v:V) (u:Value) (Q:St→Hp→Prop),Inv X pins σ H s→RelV v u→t v σ H Q →
  wpAny (model X.prog X.w) X.A (assign target X.env u) (fun _ s'=>∃ σ' H',Inv X pins σ' H' s'∧Q σ' H') X.xe s
def PGs (X:Cx) (ts:List Expr) (t:TGs):Prop:=
 ∀ (pins:List (Addr×Obj)) (s:Shared) (σ:St) (H:Hp) (vs:List V) (us:List Value) (Q:St→Hp→Prop),Inv X pins σ H s→Vals vs us→t vs σ H Q →
  wpAny (model X.prog X.w) X.A (assignInOrder ((assignEach ts X.env).map (·.2)) us) (fun _ s'=>∃ σ' H',Inv X pins σ' H' s'∧Q σ' H') X.xe s
abbrev qfM:=V→V→V→Hp→(Hp→Prop)→Prop
def qgw (X:Cx) (t:qfM):Prop:=
 ∀ (pins:List (Addr×Obj)) (s:Shared) (σ:St) (H:Hp) (o i v:V) (ov iv u:Value) (Q:Hp→Prop),Inv X pins σ H s→RelV o ov→RelV i iv→RelV v u→t o i v H Q →
  wpAny (model X.prog X.w) X.A (setItem ov iv u) (fun _ s'=>∃ H',Inv X pins σ H' s'∧Q H') X.xe s
section
variable {X:Cx} {pos:Pos}
def qbv (i:Nat):TG:=fun v σ H Q=>Q (σ.set i (some v)) H
theorem qw {i:Nat} {x:Str} (hN:X.N.Nodup) (hi:X.N[i]?=some x) (hx:Loc X.env.scope x) (hf:X.fn x=true∨X.env.scope.names.lookup x=some .local:=by first | exact .inl rfl | exact .inr rfl | assumption):PG X (.Name x pos) (qbv i):=by
 intro pins s σ H v u Q I r h
 exact wpAny_assign_Name (qa8 I hN hi hx r (fun s' I'=>⟨_,H,I',h⟩) hf)
def qgT:TGs:=fun vs σ H Q=>vs=[]∧Q σ H
def qfn (t:TG) (u:TGs):TGs:=fun vs σ H Q=>∃ v r,vs=v::r∧t v σ H fun σ' H'=>u r σ' H' Q
theorem qbe:PGs X [] qgT:=by
 intro pins s σ H vs us Q I r h
 obtain ⟨e,h⟩:=h
 subst e
 cases r
 exact assignInOrder_nil ⟨σ,H,I,h⟩
theorem jQ {e:Expr} {es:List Expr} {t:TG} {u:TGs} (h1:PG X e t) (h2:PGs X es u)
  (hs:(assignEach (e::es) X.env).map (·.2)=assign e X.env::(assignEach es X.env).map (·.2):=by rfl):PGs X (e::es) (qfn t u):=by
 intro pins s σ H vs us Q I r h
 obtain ⟨v,vr,e1,h⟩:=h
 subst e1
 cases r with
 | cons r rr =>
  rw [hs]
  refine assignInOrder_cons (thn (h1 pins s σ H _ _ _ I r h) fun _ s1 ⟨σ1,H1,I1,q1⟩=>?_)
  exact h2 pins s1 σ1 H1 _ _ Q I1 rr q1
def qgk (K:yg) (n:Nat) (t:TGs):TG:=fun v σ H Q=>∃ a xs,v=.ref a∧SqT K H a xs∧xs.length=n∧t xs σ H Q
theorem qb2 {es:List Expr} {k:Nat} {t:TGs} {n:Nat} (hc:X.calm=true) (h:PGs X es t)
  (hn:(assignEach es X.env).length=n:=by rfl) (hst:(assignEach es X.env).findIdx? (·.1)=none:=by rfl):PG X (.Tuple es k pos) (qgk X.K n t):=by
 intro pins s σ H v u Q I r hw
 obtain ⟨a,xs,e1,hq,hl,hw⟩:=hw
 subst e1
 cases r
 obtain ⟨its,rv,ht,hz⟩:=I.tuple hq
 refine assign_Tuple_tuple (I.ok.hd hc) ht (by simp [hn,← hl,rv.length]) hst fun h' hx=>?_
 have I1:Inv X pins σ H { s with heap:=h' }:=I.kept (t':=s.toks) fun b o e=>hx b o (Nat.ne_of_lt (Heap.lt_size e)) e
 exact h pins _ σ H xs _ Q I1 (by simpa using rv) hw
def qgU (to ti:TE) (t:qfM):TG:=fun v σ H Q=>to σ H fun o H1=>ti σ H1 fun i H2=>t o i v H2 fun H3=>Q σ H3
theorem jV {o i:Expr} {to ti:TE} {t:qfM} (ho:PE X o to) (hi:PE X i ti) (hs:qgw X t)
  (ha:∀ v,assign (.Subscript o i pos) X.env v=(do
   let ov ← holding [v] (eval o X.env)
   let iv ← holding [v,ov] (eval i X.env)
   standAt pos
   holding [v,ov,iv] (setItem ov iv v)
   release [v,ov,iv] []):=by intro _;rfl):PG X (.Subscript o i pos) (qgU to ti t):=by
 intro pins s σ H v u Q I r h
 rw [ha]
 refine wpAny_bind (wpAny_holding (thn (ho pins s σ H _ I h) fun ov s1 ⟨x,H1,I1,r1,q1⟩=>?_))
 refine wpAny_bind (wpAny_holding (thn (hi pins s1 σ H1 _ I1 q1) fun iv s2 ⟨y,H2,I2,r2,q2⟩=>?_))
 refine wpAny_bind (wpAny_standAt (wpAny_bind (wpAny_holding (thn (hs pins s2 σ H2 x y v ov iv u _ I2 r1 r2 r q2) fun _ s3 ⟨H3,I3,q3⟩=>?_))))
 exact wpAny_release ⟨σ,H3,I3,q3⟩
def qfD (te:TE) (g:TG):TS:=fun D σ H=>te σ H fun x H1=>g x σ H1 D.nx
theorem jG {tg e:Expr} {te:TE} {g:TG} (he:PE X e te) (hg:PG X tg g) (hs:swapsWithSole [tg] e pos.line X.env=pure false:=by rfl) (hw:swappedStores [tg] e X.env=pure none:=by rfl)
  (h1:(assignEach [tg] X.env).map (·.2)=[assign tg X.env]:=by rfl):PS X (.Assign [tg] e pos) (qfD te g):=by
 intro pins s σ H D I h
 refine wpAny_Assign_stores (thn (he pins s σ H _ I h) fun v s1 ⟨x,H1,I1,r1,q1⟩=>?_) hs hw
 rw [h1]
 exact thn (hg pins s1 σ H1 x v _ I1 r1 q1) fun _ s2 q=>q
theorem qu {i:Nat} {x:Str} {e:Expr} {te:TE} {pos':Pos} (hN:X.N.Nodup) (hi:X.N[i]?=some x) (hx:Loc X.env.scope x) (he:PE X e te) (hs:swapsWith e (some (.Name x pos')) pos.line X.env=pure false:=by rfl) (hf:X.fn x=true∨X.env.scope.names.lookup x=some .local:=by first | exact .inl rfl | exact .inr rfl | assumption) :
  PS X (.Assign [.Name x pos'] e pos) (qfD te (qbv i)):=by
 intro pins s σ H D I h
 refine wpAny_Assign_Name (thn (he pins s σ H _ I h) fun v s1 ⟨y,H1,I1,r1,q1⟩=>?_) hs
 exact qa8 I1 hN hi hx r1 (fun s2 I2=>⟨_,H1,I2,q1⟩) hf
end
section
variable {X:Cx} {pos:Pos}
def tWhile (c:TT) (tb:TS):TS:=fun D σ H=>∃ W:Nat→St→Hp→Prop,(∃ m,W m σ H)∧∀ m σ H,W m σ H →
 c σ H fun b H1=>if b=true then ∃ N:St→Hp→Prop,(∀ σ' H',N σ' H'→∃ m',m' < m∧W m' σ' H')∧tb { D with nx:=N,ct:=N,bk:=D.nx } σ H1 else D.nx σ H1
theorem ps_while {c:Expr} {body:List Stmt} {tc:TT} {tb:TS} (hp:PassesOwn (model X.prog X.w) X.A X.env X.xe) (hc:PT X c tc) (hb:PSs X body tb):PS X (.While c body [] pos) (tWhile tc tb):=by
 intro pins s σ H D I h
 obtain ⟨W,⟨m0,w0⟩,turn⟩:=h
 refine wpAny_While (codeAny_whileLoop (fun n s'=>∃ σ' H',Inv X pins σ' H' s'∧W n σ' H') ?_ m0 ⟨σ,H,I,w0⟩)
 rintro n s1 ⟨σ1,H1,I1,w1⟩
 refine wpAny_passesOwn hp (thn (hc pins s1 σ1 H1 _ I1 (turn n σ1 H1 w1)) fun b s2 ⟨H2,I2,q2⟩=>?_)
 cases b with
 | true =>
  obtain ⟨N,hN,q2⟩:=q2
  rw [if_pos rfl]
  refine wpAny_passesOwn hp (thn (hb pins s2 σ1 H2 _ I2 q2) fun f s3 q3=>?_)
  cases f with
  | next =>
   obtain ⟨σ3,H3,I3,n3⟩:=q3
   obtain ⟨m',hm,w3⟩:=hN σ3 H3 n3
   exact ⟨m',hm,σ3,H3,I3,w3⟩
  | cont =>
   obtain ⟨σ3,H3,I3,n3⟩:=q3
   obtain ⟨m',hm,w3⟩:=hN σ3 H3 n3
   exact ⟨m',hm,σ3,H3,I3,w3⟩
  | brk=>exact q3
  | ret v=>exact q3
 | false =>
  rw [if_neg Bool.false_ne_true]
  exact wpAny_execs_nil ⟨σ1,H2,I2,q2⟩
end
structure It where
 go:Nat→Hp→Prop
 yld:Nat→Hp→V→Hp→Prop
 stop:Nat→Hp→Prop
def qcC (X:Cx) (pins:List (Addr×Obj)) (H:Hp) (b:Addr):Prop:=
 H b=none∧b≠X.env.locals∧b∉X.fs∧(b∈X.ex∨X.s₀.heap.objs.size≤b)∧(∀ x c,X.env.cells.lookup x=some c→c≠b)∧∀ p∈X.pn++pins,p.1≠b
theorem Inv.fpOk {X:Cx} {pins:List (Addr×Obj)} {σ:St} {H H':Hp} {s:Shared} {b:Addr} (I:Inv X pins σ H s) (hb:s.heap.objs.size≤b) (hn:H' b=none):qcC X pins H' b:=by
 refine ⟨hn,Nat.ne_of_gt (yj I.lt hb),I.nofs hb,.inr (yi I.sz hb),fun x c e z=>?_,fun p hp z=>?_⟩
 ·obtain ⟨v,q⟩:=I.cell x c e
  exact absurd (yj q.lt (by rw [z];exact hb)) (Nat.lt_irrefl _)
 ·exact absurd (yj (Heap.lt_size (I.pin p hp).1) (by rw [z];exact hb)) (Nat.lt_irrefl _)
structure Turn (P:Program) (w:World) (K:yg) (tg:Expr) (J:It) (fp:List Addr) (it:Addr) (tn:Nat→Heap→Prop):Prop where
 mem:it∈fp
 obj:∀ i h,tn i h→∀ b∈fp,∃ o,h.get? b=some o∧∀ v,o.data≠.cell v
 keep:∀ i h h',tn i h→(∀ b∈fp,∀ o,h.get? b=some o→h'.get? b=some o)→tn i h'
 item:∀ (X:Cx),X.prog=P→X.w=w→X.K=K→X.calm=true→∀ (i:Nat) (pins:List (Addr×Obj)) (s:Shared) (σ:St) (H:Hp) (E:Value→Shared→Prop),Inv X pins σ H s→(∀ b∈fp,qcC X pins H b)→tn i s.heap→J.go i H →
  wpAny (model P w) X.A (pyNext (.ref it)) (fun r s1=>∃ u,r=some u ∧
   wpAny (model P w) X.A (letOwnedTupleGo tg (.ref it) u) (fun _ s2=>∃ x H',Inv X pins σ H' s2∧RelV x u∧J.yld i H x H'∧tn (i + 1) s2.heap∧∀ b∈fp,H' b=none) E s1) E s
 done:∀ (X:Cx),X.prog=P→X.w=w→X.K=K→X.calm=true→∀ (i:Nat) (pins:List (Addr×Obj)) (s:Shared) (σ:St) (H:Hp) (E:Value→Shared→Prop),Inv X pins σ H s→(∀ b∈fp,qcC X pins H b)→tn i s.heap→J.stop i H →
  wpAny (model P w) X.A (pyNext (.ref it)) (fun r s1=>r=none∧Inv X pins σ H s1) E s
 self:∀ (A:Around) (i:Nat) (s:Shared) (Q:Value→Shared→Prop) (E:Value→Shared→Prop),tn i s.heap→Q (.ref it) s→wpAny (model P w) A (pyIter (.ref it)) Q E s
abbrev TI:=St→Hp→(It→Hp→Prop)→Prop
def PIE (X:Cx) (pins:List (Addr×Obj)) (σ:St) (tg:Expr) (R:It→Hp→Prop) (itv:Value) (s2:Shared):Prop:=
 ∃ (it:Addr) (fp:List Addr) (tn:Nat→Heap→Prop) (J:It) (H':Hp),itv=.ref it∧Inv X pins σ H' s2∧Turn X.prog X.w X.K tg J fp it tn∧tn 0 s2.heap∧(∀ b∈fp,qcC X pins H' b)∧R J H'
def PI (X:Cx) (tg iter:Expr) (wi:TI):Prop:=
 ∀ (pins:List (Addr×Obj)) (s:Shared) (σ:St) (H:Hp) (R:It→Hp→Prop),Inv X pins σ H s→wi σ H R →
  wpAny (model X.prog X.w) X.A (eval iter X.env) (fun v s1=>wpAny (model X.prog X.w) X.A (pyIter v) (PIE X pins σ tg R) X.xe s1) X.xe s
theorem qev {M:Model} {A:Around} {E:Value→Shared→Prop} {s:Shared} {tg:Expr} {it:Addr} {u:Value} {o:Obj} {n:String} {vs:Array Value} {Q:Unit→Shared→Prop} (ho:s.heap.get? it=some o) (hc:o.cls=.type n) (hd:o.data=.fields vs)
    (hn:["enumerate", "zip", "dict_itemiterator", "dict_reverseitemiterator", "odict_iterator", "itertools.zip_longest", "itertools.pairwise"].contains n=false) (hQ:Q () s):wpAny M A (letOwnedTupleGo tg (.ref it) u) Q E s:=by
  unfold letOwnedTupleGo
  cases tg<;>first
    | exact wpAny_pure hQ
    | (cases u<;>first
        | exact wpAny_pure hQ
        | (refine wpAny_bind (wpAny_load ho ?_)
           rw [hc,hd]
           show wpAny M A (if (["enumerate", "zip", "dict_itemiterator", "dict_reverseitemiterator", "odict_iterator", "itertools.zip_longest", "itertools.pairwise"].contains n&&vs[0]?==some (rawInt _))=true then _ else _) Q E s
           rw [if_neg (by intro h;rw [hn,Bool.false_and] at h;cases h)]
           exact wpAny_pure hQ))
def Itl (K:yg) (a:Addr):It:=
 ⟨fun i H=>∃ xs x,SqL K H a xs∧xs[i]?=some x,fun i H x H'=>H'=H∧∀ xs,SqL K H a xs→xs[i]?=some x,fun i H=>∃ xs,SqL K H a xs∧xs.length≤i⟩
def Itt (K:yg) (a:Addr):It:=
 ⟨fun i H=>∃ xs x,SqT K H a xs∧xs[i]?=some x,fun i H x H'=>H'=H∧∀ xs,SqT K H a xs→xs[i]?=some x,fun i H=>∃ xs,SqT K H a xs∧xs.length≤i⟩
def Itr (lo:Int) (n:Nat):It:=⟨fun i _=>i < n,fun i H x H'=>H'=H∧x=.int (lo + i),fun i _=>n≤i⟩
theorem qb3 {P:Program} {w:World} {K:yg} {tg:Expr} (a it:Addr):Turn P w K tg (Itl K a) [it] it (fun i h=>h.IsListIter it a i) where
 mem:=by simp
 obj:=fun i h st b hb=>by
  have e:b=it:=by simpa using hb
  subst e
  obtain ⟨o,e,c,d⟩:=st
  exact ⟨o,e,fun v z=>by rw [d] at z;cases z⟩
 keep:=fun i h h' st k=>st.at fun o e=>k it (by simp) o e
 item:=by
  intro X hP hw hK hc i pins s σ H E I hf st hg
  subst hP hw hK
  obtain ⟨xs,x,hq,hx⟩:=hg
  obtain ⟨its,rv,p,hz⟩:=I.list hq
  obtain ⟨u,hu,ru⟩:=rv.get hx
  obtain ⟨f0,f1,f2,f3,f4,f5⟩:=hf it (by simp)
  refine wpAny_pyNext_list_item st p.isList (x:=u) (by simpa using hu) fun h' st' sb=>?_
  have I1:Inv X pins σ H { s with heap:=h' }:=I.turned (t':=s.toks) (fun b o hb e=>(sb.2 b hb).trans e) f0 f1 f3 f4 f5
  obtain ⟨o,e,c,d⟩:=id st'
  exact ⟨u,rfl,qev (s:={ s with heap:=h' }) e c d (by decide) ⟨x,H,I1,ru,⟨rfl,fun ys hy=>by rw [I.list_inj hy hq];exact hx⟩,st',fun b hb=>(hf b hb).1⟩⟩
 done:=by
  intro X hP hw hK hc i pins s σ H E I hf st hg
  subst hP hw hK
  obtain ⟨xs,hq,hx⟩:=hg
  obtain ⟨its,rv,p,hz⟩:=I.list hq
  obtain ⟨f0,f1,f2,f3,f4,f5⟩:=hf it (by simp)
  have hl:=rv.length
  exact wpAny_pyNext_list_end (I.ok.hd hc) st p.isList (by simp;omega) fun h' eb=>⟨rfl,I.turned (t':=s.toks) (fun b o hb e=>eb b o hb e) f0 f1 f3 f4 f5⟩
 self:=fun _ _ _ _ _ st h=>wpAny_pyIter_listiter st h
theorem turn_tuple {P:Program} {w:World} {K:yg} {tg:Expr} (a it:Addr):Turn P w K tg (Itt K a) [it] it (fun i h=>h.IsTupleIter it a i) where
 mem:=by simp
 obj:=fun i h st b hb=>by
  have e:b=it:=by simpa using hb
  subst e
  obtain ⟨o,e,c,d⟩:=st
  exact ⟨o,e,fun v z=>by rw [d] at z;cases z⟩
 keep:=fun i h h' st k=>st.at fun o e=>k it (by simp) o e
 item:=by
  intro X hP hw hK hc i pins s σ H E I hf st hg
  subst hP hw hK
  obtain ⟨xs,x,hq,hx⟩:=hg
  obtain ⟨its,rv,p,hz⟩:=I.tuple hq
  obtain ⟨u,hu,ru⟩:=rv.get hx
  obtain ⟨f0,f1,f2,f3,f4,f5⟩:=hf it (by simp)
  refine wpAny_pyNext_tuple_item st (show s.heap.IsTuple a its.toArray from p) (x:=u) (by simpa using hu) fun h' st' sb=>?_
  have I1:Inv X pins σ H { s with heap:=h' }:=I.turned (t':=s.toks) (fun b o hb e=>(sb.2 b hb).trans e) f0 f1 f3 f4 f5
  obtain ⟨o,e,c,d⟩:=id st'
  exact ⟨u,rfl,qev (s:={ s with heap:=h' }) e c d (by decide) ⟨x,H,I1,ru,⟨rfl,fun ys hy=>by rw [I.tuple_inj hy hq];exact hx⟩,st',fun b hb=>(hf b hb).1⟩⟩
 done:=by
  intro X hP hw hK hc i pins s σ H E I hf st hg
  subst hP hw hK
  obtain ⟨xs,hq,hx⟩:=hg
  obtain ⟨its,rv,p,hz⟩:=I.tuple hq
  obtain ⟨f0,f1,f2,f3,f4,f5⟩:=hf it (by simp)
  have hl:=rv.length
  exact wpAny_pyNext_tuple_end (I.ok.hd hc) st (show s.heap.IsTuple a its.toArray from p) (by simp;omega) fun h' eb=>⟨rfl,I.turned (t':=s.toks) (fun b o hb e=>eb b o hb e) f0 f1 f3 f4 f5⟩
 self:=fun _ _ _ _ _ st h=>wpAny_pyIter_tupleiter st h
theorem turn_range {P:Program} {w:World} {K:yg} {tg:Expr} (it:Addr) (lo:Int) (n:Nat):Turn P w K tg (Itr lo n) [it] it (fun i h=>IsRangeIter h it (lo + (i:Nat) * 1) ((n:Int) - (i:Nat)) 1) where
 mem:=by simp
 obj:=fun i h st b hb=>by
  have e:b=it:=by simpa using hb
  subst e
  exact ⟨_,st,fun v z=>by
   have z':Data.fields _=Data.cell v:=z
   cases z'⟩
 keep:=fun i h h' st k=>k it (by simp) _ st
 item:=by
  intro X hP hw hK hc i pins s σ H E I hf st hg
  subst hP hw hK
  obtain ⟨f0,f1,f2,f3,f4,f5⟩:=hf it (by simp)
  have W:=Walks.range (prog:=X.prog) (w:=X.w) (I.ok.hd hc) it lo 1 n
  refine W.item i s _ _ hg st fun v h' tk hv st' kk=>?_
  obtain ⟨t,rfl⟩:=hv
  have I1:Inv X pins σ H { s with heap:=h',toks:=tk }:=I.turned (fun b o hb e=>kk b o (by simpa using hb) e) f0 f1 f3 f4 f5
  refine ⟨_,rfl,qev (s:={ s with heap:=h',toks:=tk }) (n:="range_iterator") st' rfl rfl (by decide) ⟨.int (lo + i),H,I1,⟨t,?_⟩,⟨rfl,rfl⟩,st',fun b hb=>(hf b hb).1⟩⟩
  rw [Int.mul_one]
 done:=by
  intro X hP hw hK hc i pins s σ H E I hf st hg
  subst hP hw hK
  obtain ⟨f0,f1,f2,f3,f4,f5⟩:=hf it (by simp)
  exact wpAny_pyNext_range_end (I.ok.hd hc) st (by have:n≤i:=hg;omega) fun h' eb=>⟨rfl,I.turned (t':=s.toks) (fun b o hb e=>eb b o hb e) f0 f1 f3 f4 f5⟩
 self:=fun _ _ _ _ _ st h=>wpAny_pyIter_rangeiter st h
section
variable {X:Cx} {tg:Expr}
theorem qc0 {pins:List (Addr×Obj)} {σ:St} {H:Hp} {s:Shared} {R:It→Hp→Prop} {E:Value→Shared→Prop} {lo hi:Int} {t u v:Tok} {tk:Nat} (I:Inv X pins σ H s) (h1:-(2 ^ 62)≤lo) (h2:lo < 2 ^ 62) (h3:-(2 ^ 62)≤hi) (h4:hi < 2 ^ 62)
  (q:R (Itr lo (hi - lo).toNat) H):wpAny (model X.prog X.w) X.A (pyIter (.ref s.heap.objs.size)) (PIE X pins σ tg R) E { s with heap:=s.heap.push { cls:=.type "range",data:=.fields #[.int lo t,.int hi u,.int 1 v] },toks:=tk }:=by
 refine wpAny_pyIter_range (IsRange.new ..) (small_one h1 h2 h3 h4) ?_
 have I1:Inv X pins σ H { s with heap:=s.heap.push { cls:=.type "range",data:=.fields #[.int lo t,.int hi u,.int 1 v] },toks:=tk }:=I.kept fun b o e=>Heap.get?_push_of_some _ e
 refine ⟨(s.heap.push { cls:=.type "range",data:=.fields #[.int lo t,.int hi u,.int 1 v] }).objs.size,[(s.heap.push { cls:=.type "range",data:=.fields #[.int lo t,.int hi u,.int 1 v] }).objs.size],_,_,H,rfl,
  I1.kept (t':=tk) fun b o e=>Heap.get?_push_of_some _ e,turn_range _ lo (hi - lo).toNat,?_,fun b hb=>?_,q⟩
 ·have e1:lo + ((0:Nat):Int) * 1=lo:=by simp
  have e2:(((hi - lo).toNat:Nat):Int) - ((0:Nat):Int)=Builtin.Range.rangeSize lo hi 1:=by rw [rangeSize_one];split<;>omega
  show IsRangeIter _ _ (lo + ((0:Nat):Int) * 1) ((((hi - lo).toNat:Nat):Int) - ((0:Nat):Int)) 1
  rw [e1,e2]
  exact Heap.get?_push_size _ rfl
 ·have e:b=(s.heap.push { cls:=.type "range",data:=.fields #[.int lo t,.int hi u,.int 1 v] }).objs.size:=by simpa using hb
  subst e
  exact I1.fpOk (yh _) (I1.hok.fresh (yh _))
def qfN (ta:TA):TI:=fun σ H R=>ta σ H fun vs H1=>∃ j:Int,vs=[.int j]∧-(2 ^ 62)≤j∧j < 2 ^ 62∧R (Itr 0 j.toNat) H1
def qfO (ta:TA):TI:=fun σ H R=>ta σ H fun vs H1=>∃ i j:Int,vs=[.int i,.int j]∧(-(2 ^ 62)≤i∧i < 2 ^ 62∧-(2 ^ 62)≤j∧j < 2 ^ 62)∧R (Itr i (j - i).toNat) H1
theorem jw {a:Expr} {ta:TA} {p pos:Pos} (hg:Gl X "range") (hm:X.mg "range"=none) (ha:PA X [a] ta) (hs:starEach [a] X.env=[(false,eval a X.env)]:=by rfl):PI X tg (.Call (.Name "range" p) [a] [] pos) (qfN ta):=by
 intro pins s σ H R I h
 refine Call_ (qaC I hg hm boot_range (PyProof.Rows.callWith_type1 (thn (ha pos pins s σ H _ I h) fun us s1 ⟨vs,H1,I1,r1,q1⟩=>?_) hs rfl))
 obtain ⟨j,e,q1,q2,q⟩:=q1
 subst e
 cases r1 with
 | cons r rr =>
  cases rr
  obtain ⟨t,rfl⟩:=r
  exact call_range_1 (qc0 I1 (by omega) (by omega) q1 q2 (by simpa using q))
theorem pi_range2 {a b:Expr} {ta:TA} {p pos:Pos} (hg:Gl X "range") (hm:X.mg "range"=none) (ha:PA X [a,b] ta) (hs:starEach [a,b] X.env=[(false,eval a X.env),(false,eval b X.env)]:=by rfl) (hs2:starEach [b] X.env=[(false,eval b X.env)]:=by rfl) :
  PI X tg (.Call (.Name "range" p) [a,b] [] pos) (qfO ta):=by
 intro pins s σ H R I h
 refine Call_ (qaC I hg hm boot_range (PyProof.Rows.callWith_type1 (thn (ha pos pins s σ H _ I h) fun us s1 ⟨vs,H1,I1,r1,q1⟩=>?_) (by rw [hs,hs2]) (by rw [hs2];rfl)))
 obtain ⟨i,j,e,⟨q1,q2,q3,q4⟩,q⟩:=q1
 subst e
 cases r1 with
 | cons r rr =>
  cases rr with
  | cons r' rr =>
   cases rr
   obtain ⟨t,rfl⟩:=r
   obtain ⟨t',rfl⟩:=r'
   exact call_range_2 (qc0 I1 q1 q2 q3 q4 q)
def qgV (wi:TI) (g:TG) (tb:TS):TS:=fun D σ H=>wi σ H fun J H1=>∃ W:Nat→Nat→St→Hp→Prop,(∃ m,W 0 m σ H1)∧∀ i m σ H,W i m σ H →
 (J.stop i H∧D.nx σ H)∨(J.go i H∧∃ N:St→Hp→Prop,(∀ σ' H',N σ' H'→∃ m',m' < m∧W (i + 1) m' σ' H')∧∀ x H',J.yld i H x H'→g x σ H' fun σ2 H2=>tb { D with nx:=N,ct:=N,bk:=D.nx } σ2 H2)
def qb4 (fp:List Addr) (h:Heap):List (Addr×Obj):=fp.filterMap fun b=>(h.get? b).map fun o=>(b,o)
theorem qam {fp:List Addr} {h:Heap} {b:Addr} {o:Obj} (hb:b∈fp) (e:h.get? b=some o):(b,o)∈qb4 fp h:=List.mem_filterMap.mpr ⟨b,hb,by rw [e];rfl⟩
theorem of_pinsAt {fp:List Addr} {h:Heap} {p:Addr×Obj} (hp:p∈qb4 fp h):p.1∈fp∧h.get? p.1=some p.2:=by
 obtain ⟨b,hb,e⟩:=List.mem_filterMap.mp hp
 cases q:h.get? b with
 | none=>rw [q] at e;cases e
 | some o =>
  rw [q] at e
  have e':(b,o)=p:=ym e
  subst e'
  exact ⟨hb,q⟩
theorem Inv.pinned {pins:List (Addr×Obj)} {σ:St} {H:Hp} {s:Shared} {fp:List Addr} (I:Inv X pins σ H s) (hf:∀ b∈fp,qcC X pins H b) (ho:∀ b∈fp,∃ o,s.heap.get? b=some o∧∀ v,o.data≠.cell v):Inv X (pins++qb4 fp s.heap) σ H s:=
 I.pins_of fun p hp=>(List.mem_append.mp hp).elim (fun z=>I.pin p (List.mem_append_right _ z)) fun z=>by
  obtain ⟨hb,e⟩:=of_pinsAt z
  obtain ⟨f0,f1,f2,_⟩:=hf p.1 hb
  obtain ⟨o,e',d⟩:=ho p.1 hb
  rw [e] at e';cases e'
  exact ⟨e,f0,f1,f2,d⟩
theorem Inv.unpinned {pins pl:List (Addr×Obj)} {σ:St} {H:Hp} {s:Shared} (I:Inv X (pins++pl) σ H s):Inv X pins σ H s:=I.pins_of fun p hp=>I.pin p (List.mem_append_right _ (List.mem_append_left _ hp))
theorem jm {iter:Expr} {body:List Stmt} {wi:TI} {g:TG} {tb:TS} {pos:Pos} (hp:PassesOwn (model X.prog X.w) X.A X.env X.xe) (hc:X.calm=true) (hi:PI X tg iter wi) (hg:PG X tg g) (hb:PSs X body tb)
  (hs:∀ x,foldedSetIterable iter X.env x=pure x:=by intro _;rfl):PS X (.For tg iter body [] pos) (qgV wi g tb):=by
 intro pins s σ H D I h
 refine wpAny_For (thn (hi pins s σ H _ I h) fun v s1 h1=>thn h1 fun itv s2 h2=>?_) hs
 obtain ⟨it,fp,tn,J,H2,e,I2,T,st2,f2,W,⟨m0,w0⟩,turn⟩:=h2
 subst e
 have stat:∀ {H':Hp},(∀ b∈fp,H' b=none)→∀ b∈fp,qcC X pins H' b:=fun hn b hb=>⟨hn b hb,(f2 b hb).2⟩
 refine codeAny_forLoop_any (fun n s'=>∃ i σ' H',Inv X pins σ' H' s'∧tn i s'.heap∧(∀ b∈fp,H' b=none)∧W i n σ' H') ?_ m0 ⟨0,σ,H2,I2,st2,fun b hb=>(f2 b hb).1,w0⟩
 rintro n s3 ⟨i,σ3,H3,I3,st3,fr3,w3⟩
 rcases turn i n σ3 H3 w3 with ⟨stop,qn⟩ | ⟨go,N,hN,step⟩
 ·refine wpAny_passesOwn hp (thn (T.done X rfl rfl rfl hc i pins s3 σ3 H3 X.xe I3 (stat fr3) st3 stop) fun r s4 ⟨hr,I4⟩=>?_)
  subst hr
  exact wpAny_execs_nil ⟨σ3,H3,I4,qn⟩
 ·refine wpAny_passesOwn hp (thn (T.item X rfl rfl rfl hc i pins s3 σ3 H3 X.xe I3 (stat fr3) st3 go) fun r s4 ⟨u,hr,h4⟩=>?_)
  subst hr
  refine wpAny_passesOwn hp (thn h4 fun _ s5 ⟨x,H5,I5,r5,y5,st5,fr5⟩=>?_)
  have I5':=I5.pinned (stat fr5) (T.obj _ _ st5)
  refine wpAny_passesOwn hp (thn (hg _ s5 σ3 H5 x u _ I5' r5 (step x H5 y5)) fun _ s6 ⟨σ6,H6,I6,q6⟩=>?_)
  refine wpAny_passesOwn hp (thn (hb _ s6 σ6 H6 _ I6 q6) fun f s7 q7=>?_)
  have again:∀ {σ7:St} {H7:Hp},Inv X (pins++qb4 fp s5.heap) σ7 H7 s7→N σ7 H7→∃ m,m < n∧∃ i σ' H',Inv X pins σ' H' s7∧tn i s7.heap∧(∀ b∈fp,H' b=none)∧W i m σ' H':=fun {σ7 H7} I7 n7=>by
   obtain ⟨m',hm,w7⟩:=hN σ7 H7 n7
   refine ⟨m',hm,i + 1,σ7,H7,I7.unpinned,T.keep _ _ _ st5 fun b hb o e=>(I7.pin (b,o) (List.mem_append_right _ (List.mem_append_right _ (qam hb e)))).1,fun b hb=>?_,w7⟩
   obtain ⟨o,e,d⟩:=T.obj _ _ st5 b hb
   exact (I7.pin (b,o) (List.mem_append_right _ (List.mem_append_right _ (qam hb e)))).2.1
  cases f with
  | next=>obtain ⟨σ7,H7,I7,n7⟩:=q7;exact again I7 n7
  | cont=>obtain ⟨σ7,H7,I7,n7⟩:=q7;exact again I7 n7
  | brk=>obtain ⟨σ7,H7,I7,q7⟩:=q7;exact ⟨σ7,H7,I7.unpinned,q7⟩
  | ret v=>obtain ⟨x7,σ7,H7,I7,r7,q7⟩:=q7;exact ⟨x7,σ7,H7,I7.unpinned,r7,q7⟩
end
theorem jq {K:yg} {a:Addr} {xs:List V} {g:TG} {tb:TS} {D:Ends} {σ:St} {H:Hp} (Pv:Nat→St→Hp→Prop) (h0:Pv 0 σ H) (hl:∀ i σ H,i≤xs.length→Pv i σ H→SqL K H a xs)
  (hs:∀ i x σ H,xs[i]?=some x→Pv i σ H→g x σ H fun σ2 H2=>tb { D with nx:=Pv (i + 1),ct:=Pv (i + 1),bk:=D.nx } σ2 H2) (hd:∀ σ H,Pv xs.length σ H→D.nx σ H) :
  ∃ W:Nat→Nat→St→Hp→Prop,(∃ m,W 0 m σ H)∧∀ i m σ H,W i m σ H →
   ((Itl K a).stop i H∧D.nx σ H)∨((Itl K a).go i H∧∃ N:St→Hp→Prop,(∀ σ' H',N σ' H'→∃ m',m' < m∧W (i + 1) m' σ' H')∧∀ x H',(Itl K a).yld i H x H'→g x σ H' fun σ2 H2=>tb { D with nx:=N,ct:=N,bk:=D.nx } σ2 H2):=by
 refine ⟨fun i m σ H=>m=xs.length - i∧i≤xs.length∧Pv i σ H,⟨xs.length,by simp,Nat.zero_le _,h0⟩,?_⟩
 rintro i m σ H ⟨rfl,hi,p⟩
 have q:=hl i σ H hi p
 by_cases hlt:i < xs.length
 ·refine .inr ⟨⟨xs,xs[i],q,by simp [hlt]⟩,Pv (i + 1),fun σ' H' p'=>⟨xs.length - (i + 1),by omega,rfl,hlt,p'⟩,fun x H' y=>?_⟩
  obtain ⟨e,y⟩:=y
  subst e
  exact hs i x σ _ (y xs q) p
 ·have e:i=xs.length:=by omega
  subst e
  exact .inl ⟨⟨xs,q,yh _⟩,hd σ H p⟩
theorem for_tup {K:yg} {a:Addr} {xs:List V} {g:TG} {tb:TS} {D:Ends} {σ:St} {H:Hp} (Pv:Nat→St→Hp→Prop) (h0:Pv 0 σ H) (hl:∀ i σ H,i≤xs.length→Pv i σ H→SqT K H a xs)
  (hs:∀ i x σ H,xs[i]?=some x→Pv i σ H→g x σ H fun σ2 H2=>tb { D with nx:=Pv (i + 1),ct:=Pv (i + 1),bk:=D.nx } σ2 H2) (hd:∀ σ H,Pv xs.length σ H→D.nx σ H) :
  ∃ W:Nat→Nat→St→Hp→Prop,(∃ m,W 0 m σ H)∧∀ i m σ H,W i m σ H →
   ((Itt K a).stop i H∧D.nx σ H)∨((Itt K a).go i H∧∃ N:St→Hp→Prop,(∀ σ' H',N σ' H'→∃ m',m' < m∧W (i + 1) m' σ' H')∧∀ x H',(Itt K a).yld i H x H'→g x σ H' fun σ2 H2=>tb { D with nx:=N,ct:=N,bk:=D.nx } σ2 H2):=by
 refine ⟨fun i m σ H=>m=xs.length - i∧i≤xs.length∧Pv i σ H,⟨xs.length,by simp,Nat.zero_le _,h0⟩,?_⟩
 rintro i m σ H ⟨rfl,hi,p⟩
 have q:=hl i σ H hi p
 by_cases hlt:i < xs.length
 ·refine .inr ⟨⟨xs,xs[i],q,by simp [hlt]⟩,Pv (i + 1),fun σ' H' p'=>⟨xs.length - (i + 1),by omega,rfl,hlt,p'⟩,fun x H' y=>?_⟩
  obtain ⟨e,y⟩:=y
  subst e
  exact hs i x σ _ (y xs q) p
 ·have e:i=xs.length:=by omega
  subst e
  exact .inl ⟨⟨xs,q,yh _⟩,hd σ H p⟩
theorem jW {lo:Int} {n:Nat} {g:TG} {tb:TS} {D:Ends} {σ:St} {H:Hp} (Pv:Nat→St→Hp→Prop) (h0:Pv 0 σ H)
  (hs:∀ i σ H,i < n→Pv i σ H→g (.int (lo + i)) σ H fun σ2 H2=>tb { D with nx:=Pv (i + 1),ct:=Pv (i + 1),bk:=D.nx } σ2 H2) (hd:∀ σ H,Pv n σ H→D.nx σ H) :
  ∃ W:Nat→Nat→St→Hp→Prop,(∃ m,W 0 m σ H)∧∀ i m σ H,W i m σ H →
   ((Itr lo n).stop i H∧D.nx σ H)∨((Itr lo n).go i H∧∃ N:St→Hp→Prop,(∀ σ' H',N σ' H'→∃ m',m' < m∧W (i + 1) m' σ' H')∧∀ x H',(Itr lo n).yld i H x H'→g x σ H' fun σ2 H2=>tb { D with nx:=N,ct:=N,bk:=D.nx } σ2 H2):=by
 refine ⟨fun i m σ H=>m=n - i∧i≤n∧Pv i σ H,⟨n,by simp,Nat.zero_le _,h0⟩,?_⟩
 rintro i m σ H ⟨rfl,hi,p⟩
 by_cases hlt:i < n
 ·refine .inr ⟨hlt,Pv (i + 1),fun σ' H' p'=>⟨n - (i + 1),by omega,rfl,hlt,p'⟩,fun x H' y=>?_⟩
  obtain ⟨e,y⟩:=y
  subst e y
  exact hs i σ _ hlt p
 ·have e:i=n:=by omega
  subst e
  exact .inl ⟨yh _,hd σ H p⟩
abbrev R2:=V→V→Hp→VK→Prop
def OpR (X:Cx) (f:Value→Value→Sem Value) (r:R2):Prop:=
 ∀ (pins:List (Addr×Obj)) (s:Shared) (σ:St) (H:Hp) (x y:V) (v u:Value) (Q:VK),Inv X pins σ H s→RelV x v→RelV y u→r x y H Q →
  wpAny (model X.prog X.w) X.A (f v u) (EP X pins σ Q) X.xe s
def UnR (X:Cx) (f:Value→Sem Value) (r:V→Hp→VK→Prop):Prop:=
 ∀ (pins:List (Addr×Obj)) (s:Shared) (σ:St) (H:Hp) (x:V) (v:Value) (Q:VK),Inv X pins σ H s→RelV x v→r x H Q →
  wpAny (model X.prog X.w) X.A (f v) (EP X pins σ Q) X.xe s
def zY (X:Cx) (f:Value) (r:List V→Hp→VK→Prop):Prop:=
 ∀ (pins:List (Addr×Obj)) (s:Shared) (σ:St) (H:Hp) (xs:List V) (us:List Value) (Q:VK),Inv X pins σ H s→Vals xs us→r xs H Q →
  wpAny (model X.prog X.w) X.A (call f us) (EP X pins σ Q) X.xe s
def tOp (r:R2) (ta tb:TE):TE:=fun σ H Q=>ta σ H fun x H1=>tb σ H1 fun y H2=>r x y H2 Q
def tUn (r:V→Hp→VK→Prop) (ta:TE):TE:=fun σ H Q=>ta σ H fun x H1=>r x H1 Q
def rI (C:Int→Int→Prop) (g:Int→Int→V):R2:=fun x y H Q=>∃ i j,x=.int i∧y=.int j∧C i j∧Q (g i j) H
def rI0 (g:Int→Int→V):R2:=fun x y H Q=>∃ i j,x=.int i∧y=.int j∧Q (g i j) H
def rU (g:Int→V):V→Hp→VK→Prop:=fun x H Q=>∃ i,x=.int i∧Q (g i) H
section
variable {X:Cx} {a b c:Expr} {ta tb tc:TE} {pos:Pos}
theorem qgx (ha:PE X a ta) (hb:PE X b tb) {pins:List (Addr×Obj)} {s:Shared} {σ:St} {H:Hp} {R:V→V→Hp→Prop} (I:Inv X pins σ H s)
  (h:ta σ H fun x H1=>tb σ H1 fun y H2=>R x y H2) {Q:Value→Shared→Prop} {f:Value→Value→Sem Value}
  (hf:∀ v u s2 x y H2,Inv X pins σ H2 s2→RelV x v→RelV y u→R x y H2→wpAny (model X.prog X.w) X.A (f v u) Q X.xe s2) :
  wpAny (model X.prog X.w) X.A (eval a X.env) (fun v s₁=>wpAny (model X.prog X.w) X.A (eval b X.env) (fun u s₂=>wpAny (model X.prog X.w) X.A (f v u) Q X.xe s₂) X.xe s₁) X.xe s:=by
 refine thn (ha pins s σ H _ I h) fun v s1 ⟨x,H1,I1,r1,q1⟩=>?_
 refine thn (hb pins s1 σ H1 _ I1 q1) fun u s2 ⟨y,H2,I2,r2,q2⟩=>?_
 exact hf v u s2 x y H2 I2 r1 r2 q2
theorem qB {op:Operator} {r:R2} (ho:OpR X (binaryOp op) r) (ha:PE X a ta) (hb:PE X b tb):PE X (.BinOp a op b pos) (tOp r ta tb):=by
 intro pins s σ H Q I h
 exact wpAny_BinOp (qgx ha hb I h fun v u s2 x y H2 I2 rx ry q=>ho pins s2 σ H2 x y v u Q I2 rx ry q)
theorem qbw {op:UnaryOp} {r:V→Hp→VK→Prop} (ho:UnR X (unaryOp op) r) (ha:PE X a ta):PE X (.UnaryOp op a pos) (tUn r ta):=by
 intro pins s σ H Q I h
 exact UnaryOp_ (thn (ha pins s σ H _ I h) fun v s1 ⟨x,H1,I1,r1,q1⟩=>ho pins s1 σ H1 x v Q I1 r1 q1)
theorem opI {f:Value→Value→Sem Value} {C:Int→Int→Prop} {g:Int→Int→Int}
  (rule:∀ (i j:Int) (t u:Tok) (s:Shared) (Q:Value→Shared→Prop) (E:Value→Shared→Prop),C i j→Q (.int (g i j) s.toks) { s with toks:=s.toks + 1 }→wpAny (model X.prog X.w) X.A (f (.int i t) (.int j u)) Q E s) :
  OpR X f (rI C fun i j=>.int (g i j)):=by
 intro pins s σ H x y v u Q I rx ry h
 obtain ⟨i,j,rfl,rfl,hc,q⟩:=h
 obtain ⟨t,rfl⟩:=rx
 obtain ⟨t',rfl⟩:=ry
 exact rule i j t t' s _ _ hc ⟨.int (g i j),H,I.tok _,⟨_,rfl⟩,q⟩
theorem qgl {f:Value→Value→Sem Value} {g:Int→Int→Int}
  (rule:∀ (i j:Int) (t u:Tok) (s:Shared) (Q:Value→Shared→Prop) (E:Value→Shared→Prop),Q (.int (g i j) s.toks) { s with toks:=s.toks + 1 }→wpAny (model X.prog X.w) X.A (f (.int i t) (.int j u)) Q E s) :
  OpR X f (rI0 fun i j=>.int (g i j)):=by
 intro pins s σ H x y v u Q I rx ry h
 obtain ⟨i,j,rfl,rfl,q⟩:=h
 obtain ⟨t,rfl⟩:=rx
 obtain ⟨t',rfl⟩:=ry
 exact rule i j t t' s _ _ ⟨.int (g i j),H,I.tok _,⟨_,rfl⟩,q⟩
theorem qgy {f:Value→Value→Sem Value} {g:Int→Int→Bool}
  (rule:∀ (i j:Int) (t u:Tok) (s:Shared) (Q:Value→Shared→Prop) (E:Value→Shared→Prop),Q (.bool (g i j)) s→wpAny (model X.prog X.w) X.A (f (.int i t) (.int j u)) Q E s) :
  OpR X f (rI0 fun i j=>.bl (g i j)):=by
 intro pins s σ H x y v u Q I rx ry h
 obtain ⟨i,j,rfl,rfl,q⟩:=h
 obtain ⟨t,rfl⟩:=rx
 obtain ⟨t',rfl⟩:=ry
 exact rule i j t t' s _ _ ⟨.bl (g i j),H,I,rfl,q⟩
def CDiv (i j:Int):Prop:=0 < j∧j < 1073741824
def qgW (i j:Int):Prop:=0≤j∧j≤1000000∧i.natAbs < 2 ^ 64
def CMul (i j:Int):Prop:=(-(2 ^ 64) < i∧i < 2 ^ 64)∨(-(2 ^ 64) < j∧j < 2 ^ 64)
theorem CMul.ok {i j:Int} (h:CMul i j):IntMulOk i j:=by
 rcases h with ⟨h1,h2⟩ | ⟨h1,h2⟩
 ·exact .of_left (intBits_le_64 h1 h2)
 ·exact .of_right (intBits_le_64 h1 h2)
theorem two_pow_nn (k:Nat):(0:Int)≤2 ^ k:=by
 rw [two_pow_cast]
 exact Int.natCast_nonneg _
theorem op_add:OpR X (binaryOp .Add) (rI0 fun i j=>.int (i + j)):=qgl fun _ _ _ _ _ _ _ q=>add_int q
theorem qbx:OpR X (binaryOp .Sub) (rI0 fun i j=>.int (i - j)):=qgl fun _ _ _ _ _ _ _ q=>sub_int q
theorem op_mul:OpR X (binaryOp .Mult) (rI CMul fun i j=>.int (i * j)):=opI fun _ _ _ _ _ _ _ hc q=>mul_int q hc.ok
theorem qbL:OpR X (binaryOp .FloorDiv) (rI CDiv fun i j=>.int (i / j)):=opI fun i j _ _ _ _ _ hc q=>by
 have h1:(0:Int) < j:=hc.1
 have h2:j < 1073741824:=hc.2
 exact floordiv_int (by omega) (by rw [Int.fdiv_eq_ediv_of_nonneg i (by omega)];exact q) (.inl (PyProof.noPylong_small (by omega)))
theorem qac:OpR X (binaryOp .Mod) (rI (fun _ j=>0 < j) fun i j=>.int (i % j)):=opI fun i j _ _ _ _ _ hc q=>by
 have h1:(0:Int) < j:=hc
 exact mod_int' (by omega) (by rw [Int.fmod_eq_emod_of_nonneg i (by omega)];exact q)
theorem op_pow:OpR X (binaryOp .Pow) (rI qgW fun i j=>.int (i ^ j.toNat)):=opI fun _ _ _ _ _ _ _ hc q=>pow_int_small hc.1 hc.2.1 hc.2.2 q
theorem qeM:OpR X (binaryOp .LShift) (rI qgW fun i j=>.int (i * 2 ^ j.toNat)):=opI fun _ _ _ _ _ _ _ hc q=>lshift_int_small hc.1 hc.2.1 hc.2.2 q
theorem op_shr:OpR X (binaryOp .RShift) (rI (fun _ j=>0≤j) fun i j=>.int (i / 2 ^ j.toNat)):=opI fun i j _ _ _ _ _ hc q =>
 rshift_int hc (by rw [Int.fdiv_eq_ediv_of_nonneg i (two_pow_nn _)];exact q)
theorem op_and:OpR X (binaryOp .BitAnd) (rI0 fun i j=>.int (Builtin.bitAnd i j)):=qgl fun _ _ _ _ _ _ _ q=>and_int q
theorem qfP:OpR X (binaryOp .BitOr) (rI0 fun i j=>.int (Builtin.bitOr i j)):=qgl fun _ _ _ _ _ _ _ q=>or_int q
theorem unI {f:Value→Sem Value} {g:Int→Int}
  (rule:∀ (i:Int) (t:Tok) (s:Shared) (Q:Value→Shared→Prop) (E:Value→Shared→Prop),Q (.int (g i) s.toks) { s with toks:=s.toks + 1 }→wpAny (model X.prog X.w) X.A (f (.int i t)) Q E s) :
  UnR X f (rU fun i=>.int (g i)):=by
 intro pins s σ H x v Q I rx h
 obtain ⟨i,rfl,q⟩:=h
 obtain ⟨t,rfl⟩:=rx
 exact rule i t s _ _ ⟨.int (g i),H,I.tok _,⟨_,rfl⟩,q⟩
theorem qaw:UnR X (unaryOp .USub) (rU fun i=>.int (-i)):=unI fun _ _ _ _ _ q=>neg_int q
end
def scal:V→V→Bool
 | .non,.non=>true | .non,.int _=>true | .int _,.non=>true | .non,.bl _=>true | .bl _,.non=>true | .non,.str _=>true | .str _,.non=>true
 | .int _,.int _=>true | .bl _,.bl _=>true | .str _,.str _=>true | .byt _,.byt _=>true
 | .int _,.str _=>true | .str _,.int _=>true | .bl _,.str _=>true | .str _,.bl _=>true
 | _,_=>false
def rEq:R2:=fun x y H Q=>scal x y=true∧Q (.bl (decide (x=y))) H
theorem dec_bl {i j:Bool}:decide (V.bl i=V.bl j)=(i==j):=by
 rw [Bool.eq_iff_iff]
 simp
section
variable {X:Cx} {a b c:Expr} {ta tb tc:TE} {pos:Pos}
theorem fin_bl {pins:List (Addr×Obj)} {σ:St} {H:Hp} {s:Shared} {Q:VK} {k k':Bool} (I:Inv X pins σ H s) (q:Q (.bl k) H) (e:k=k'):EP X pins σ Q (.bool k') s:=by
 subst e
 exact ⟨.bl k,H,I,rfl,q⟩
theorem qdE:OpR X (compareOp .Lt) (rI0 fun i j=>.bl (decide (i < j))):=qgy fun _ _ _ _ _ _ _ q=>lt_int q
theorem op_le:OpR X (compareOp .LtE) (rI0 fun i j=>.bl (decide (i≤j))):=qgy fun _ _ _ _ _ _ _ q=>le_int q
theorem qcD:OpR X (compareOp .Gt) (rI0 fun i j=>.bl (decide (j < i))):=qgy fun _ _ _ _ _ _ _ q=>gt_int q
theorem qA (b:Expr) {op:CmpOp} (h:op≠.In:=by decide) (h2:op≠.NotIn:=by decide):behindInMarks op b=false:=by
 have e1:(op==CmpOp.In)=false:=by cases op<;>first | rfl | exact absurd rfl h
 have e2:(op==CmpOp.NotIn)=false:=by cases op<;>first | rfl | exact absurd rfl h2
 cases b<;>simp [behindInMarks,e1,e2]
theorem qV {op:CmpOp} {r:R2} (ho:OpR X (compareOp op) r) (ha:PE X a ta) (hb:PE X b tb) (hm:behindInMarks op b=false):PE X (.Compare a [op] [b] pos) (tOp r ta tb):=by
 intro pins s σ H Q I h
 exact wpAny_Compare1 (qgx ha hb I h fun v u s2 x y H2 I2 rx ry q=>ho pins s2 σ H2 x y v u Q I2 rx ry q) hm
def qfo (t:TE):TT:=fun σ H Q=>t σ H fun x H'=>∃ k,x=.bl k∧Q k H'
theorem qv {op:CmpOp} {r:R2} (ho:OpR X (compareOp op) r) (ha:PE X a ta) (hb:PE X b tb) (hm:behindInMarks op b=false):PT X (.Compare a [op] [b] pos) (qfo (tOp r ta tb)):=by
 intro pins s σ H Q I h
 refine wpAny_isTrue_Compare1 (thn (ha pins s σ H _ I h) fun v s1 ⟨x,H1,I1,r1,q1⟩=>thn (hb pins s1 σ H1 _ I1 q1) fun u s2 ⟨y,H2,I2,r2,q2⟩ =>
  thn (ho pins s2 σ H2 x y v u _ I2 r1 r2 q2) fun c s3 ⟨z,H3,I3,r3,k,e,q3⟩=>?_) hm
 subst e
 cases r3
 exact wpAny_truthy_bool ⟨H3,I3,q3⟩
def qdO (r r':R2) (ta tb tc:TE):TE:=fun σ H Q=>ta σ H fun x H1=>tb σ H1 fun y H2=>r x y H2 fun z H3=>∃ k,z=.bl k ∧
 (if k=true then tc σ H3 fun w' H4=>r' y w' H4 Q else Q (.bl false) H3)
theorem pe_chain {op op':CmpOp} {r r':R2} (ho:OpR X (compareOp op) r) (ho':OpR X (compareOp op') r') (ha:PE X a ta) (hb:PE X b tb) (hc:PE X c tc)
  (hm:lastMarks [op,op'] [b,c]=false:=by with_unfolding_all rfl):PE X (.Compare a [op,op'] [b,c] pos) (qdO r r' ta tb tc):=by
 intro pins s σ H Q I h
 refine Compare_chain (thn (ha pins s σ H _ I h) fun v s1 ⟨x,H1,I1,r1,q1⟩=>chain_link (thn (hb pins s1 σ H1 _ I1 q1) fun u s2 ⟨y,H2,I2,r2,q2⟩ =>
  thn (ho pins s2 σ H2 x y v u _ I2 r1 r2 q2) fun d s3 ⟨z,H3,I3,r3,k,e,q3⟩=>?_)) hm
 subst e
 cases r3
 refine wpAny_truthy_bool ?_
 cases k with
 | false=>exact ite_ff ⟨.bl false,H3,I3,rfl,q3⟩
 | true=>exact ite_tt (chain_last (thn (hc pins s3 σ H3 _ I3 q3) fun w' s4 ⟨z',H4,I4,r4,q4⟩=>ho' pins s4 σ H4 y z' u w' Q I4 r2 r4 q4))
theorem pt_chain {op op':CmpOp} {r r':R2} (ho:OpR X (compareOp op) r) (ho':OpR X (compareOp op') r') (ha:PE X a ta) (hb:PE X b tb) (hc:PE X c tc)
  (hm:lastMarks [op,op'] [b,c]=false:=by with_unfolding_all rfl):PT X (.Compare a [op,op'] [b,c] pos) (qfo (qdO r r' ta tb tc)):=by
 intro pins s σ H Q I h
 refine isTrue_chain (thn (ha pins s σ H _ I h) fun v s1 ⟨x,H1,I1,r1,q1⟩=>test_link (thn (hb pins s1 σ H1 _ I1 q1) fun u s2 ⟨y,H2,I2,r2,q2⟩ =>
  thn (ho pins s2 σ H2 x y v u _ I2 r1 r2 q2) fun d s3 ⟨z,H3,I3,r3,k,e,q3⟩=>?_)) hm
 subst e
 cases r3
 refine wpAny_truthy_bool ?_
 cases k with
 | false =>
  obtain ⟨k',e',q'⟩:=q3
  cases e'
  exact ite_ff ⟨H3,I3,q'⟩
 | true =>
  refine ite_tt (test_last (thn (hc pins s3 σ H3 _ I3 q3) fun w' s4 ⟨z',H4,I4,r4,q4⟩=>thn (ho' pins s4 σ H4 y z' u w' _ I4 r2 r4 q4) fun d' s5 ⟨z2,H5,I5,r5,k2,e2,q5⟩=>?_))
  subst e2
  cases r5
  exact wpAny_truthy_bool ⟨H5,I5,q5⟩
theorem qby:(sizeLine:Nat) < 2 ^ 63:=by rw [sizeLine_eq];decide
theorem op_add_str:OpR X (binaryOp .Add) (fun x y H Q=>∃ i j,x=.str i∧y=.str j∧i.length + j.length≤sizeLine∧Q (.str (i++j)) H):=by
 intro pins s σ H x y v u Q I rx ry h
 obtain ⟨i,j,rfl,rfl,hz,q⟩:=h
 obtain ⟨t,rfl⟩:=rx
 obtain ⟨t',rfl⟩:=ry
 exact add_str (fun t' tk=>⟨.str (i++j),H,I.tok _,⟨_,rfl⟩,q⟩) hz
theorem qbf {x:V} {us:List Value} (r:Vals [x] us):∃ u,us=[u]∧RelV x u:=by
 cases r with
 | cons r1 r2=>cases r2;exact ⟨_,rfl,r1⟩
theorem qew {x y:V} {us:List Value} (r:Vals [x,y] us):∃ u w',us=[u,w']∧RelV x u∧RelV y w':=by
 cases r with
 | cons r1 r2 =>
  cases r2 with
  | cons r3 r4=>cases r4;exact ⟨_,_,rfl,r1,r3⟩
theorem call_max2 (hc:X.calm=true):zY X (.builtin "max") (fun xs H Q=>∃ i j,xs=[.int i,.int j]∧Q (.int (if j > i then j else i)) H):=by
 intro pins s σ H xs us Q I r h
 obtain ⟨i,j,rfl,q⟩:=h
 obtain ⟨u,w',rfl,⟨t,rfl⟩,⟨t',rfl⟩⟩:=qew r
 refine max_two_ints (I.ok.hd hc) fun h' tk k=>⟨_,H,I.kept k,?_,q⟩
 by_cases hj:j > i
 ·rw [if_pos hj,if_pos hj];exact ⟨_,rfl⟩
 ·rw [if_neg hj,if_neg hj];exact ⟨_,rfl⟩
theorem qb5:zY X (.type "int") (fun xs H Q=>(∃ i,xs=[.int i]∧Q (.int i) H)∨∃ k,xs=[.bl k]∧Q (.int (if k then 1 else 0)) H):=by
 intro pins s σ H xs us Q I r h
 rcases h with ⟨i,rfl,q⟩ | ⟨k,rfl,q⟩
 ·obtain ⟨u,rfl,t,rfl⟩:=qbf r
  exact call_int_int ⟨.int i,H,I,⟨_,rfl⟩,q⟩
 ·obtain ⟨u,rfl,r1⟩:=qbf r
  cases r1
  exact call_int_bool ⟨.int (if k then 1 else 0),H,I.tok _,⟨_,rfl⟩,q⟩
end
structure ObjM (h:Heap) (x dx C:Addr) (mA:Str→Option Value):Prop where
 obj:h.get? x=some (PySem.W.instObj C dx)
 ns:h.Ns1 dx mA
 ne:dx≠x
theorem qb6 {h:Heap} {dx:Addr} {mA:Str→Option Value} (n:h.Ns1 dx mA):∃ od,h.get? dx=some od∧∀ name,PySem.W.lookIn name od=some (mA name):=by
 obtain ⟨o,es,ep,ho,hd,hk,_,hm⟩:=n
 refine ⟨o,ho,fun name=>?_⟩
 have e:=hm name
 unfold nsFind findBy at e
 rw [← Array.find?_toList] at e
 unfold PySem.W.lookIn
 rw [hd]
 dsimp only
 split
 ·rename_i y q
  rw [q] at e
  exact congrArg some e
 ·rename_i q
  rw [q] at e
  have a:es.toList.any (·.refKey)=false:=by
   rw [List.any_eq_false]
   intro y hy
   obtain ⟨z,t,hkey⟩:=hk y (Array.mem_toList_iff.mp hy)
   simp [DictEntry.refKey,hkey]
  have a':¬ es.toList.any (·.refKey)=true:=by rw [a];exact Bool.false_ne_true
  rw [if_neg a']
  exact congrArg some e
theorem ObjM.look {h:Heap} {x dx C:Addr} {mA:Str→Option Value} (I:ObjM h x dx C mA):∃ od,PySem.W.InstAt h x (PySem.W.instObj C dx) C (some od)∧∀ name,PySem.W.lookIn name od=some (mA name):=
 let ⟨od,ho,hl⟩:=qb6 I.ns
 ⟨od,⟨I.obj,rfl,rfl,ho⟩,hl⟩
section
variable {prog:Program} {w:World} {A:Around} {E:Value→Shared→Prop} {s:Shared} {K:yg} {x dx C f:Addr} {mA:Str→Option Value} {name:Str} {v:Value}
theorem get_map {expr:Bool} {Q:Value→Shared→Prop} (X:K.In s.heap) (I:ObjM s.heap x dx C mA) (hg:PySem.W.plainGet K C name=true) (hh:PySem.W.hasDictIn K C=true)
  (ha:PySem.W.findIn K (.ref C) name=some none) (hv:mA name=some v) (hv':PySem.W.handedIn v=true) (h:Q v { s with toks:=s.toks + 1 }) :
  wpAny (model prog w) A (getAttr (.ref x) name expr) Q E s:=by
 obtain ⟨od,J,hl⟩:=I.look
 exact PySem.W.get_value X J (PySem.W.plainGet_of hg).1 (PySem.W.findObj_own hh ha rfl (by rw [hl,hv])) hv' h
theorem get_meth {pl:Sem Bool} {Q:Value×List Value→Shared→Prop} (X:K.In s.heap) (I:ObjM s.heap x dx C mA) (hg:PySem.W.plainGet K C name=true)
  (hf:PySem.W.findIn K (.ref C) name=some (some (.ref f))) (ht:PySem.W.isFn K (.ref f)=true) (hv:mA name=none) (h:Q (.ref f,[.ref x]) s) :
  wpAny (model prog w) A (getMethod (.ref x) name pl) Q E s:=by
 obtain ⟨od,J,hl⟩:=I.look
 exact PySem.W.method_fn X J (PySem.W.plainGet_of hg).1 (PySem.W.plainGet_of hg).2 hf (beq_iff_eq.mp ht) (by show (PySem.W.lookIn name od).map (·.isSome)=some false;rw [hl,hv];rfl) h
theorem set_map {ns:List Str} {Q:Unit→Shared→Prop} (X:K.In s.heap) (I:ObjM s.heap x dx C mA)
  (hs:PySem.W.findIn K (.ref C) "__setattr__"=some (some (.builtin "object.__setattr__"))) (hp:PySem.W.plainOver K C=true) (ht:PySem.W.takerIn K C name=some none) (hh:PySem.W.hasDictIn K C=true)
  (hw:PySem.Within mA ns) (hsz:ns.length≤sizeLine)
  (h:∀ h',ObjM h' x dx C (fun y=>if y=name then some v else mA y)→Heap.SameBut dx s.heap h'→Q () { s with heap:=h',toks:=s.toks + 2 }) :
  wpAny (model prog w) A (setAttr (.ref x) name v) Q E s:=by
 obtain ⟨od,J,hl⟩:=I.look
 refine PySem.W.set_plain X J hs (PySem.W.osa_open (s:={ s with toks:=s.toks + 1 }) (r:=none) X J hp ht fun b=>?_)
 obtain ⟨cd,hc,hd'⟩:=PySem.W.any_some hh
 have hx:s.heap.get? x=some ⟨.ref C,some dx,.plain,#[]⟩:=I.obj
 refine wpAny_bind (wpAny_pure (wpAny_bind (wpAny_bind (wpAny_loadPart hx (wpAny_bind (PySem.W.Looks.here (s:={ s with toks:=s.toks + 1 }) (PySem.W.looks_clsIn X hc) ?_))))))
 rw [hd']
 refine wpAny_pure (a:=some dx) (wpAny_bind (wpAny_pure (wpAny_bind ?_)))
 refine wpAny_nsSet1 (s:={ s with toks:=s.toks + 1 }) I.ns fun h' hn2 hs2=>?_
 obtain ⟨oD,esD,epD,hoD,hdD,hcD⟩:=hn2.count (PySem.Within.cons name v hw)
 refine wpAny_bind (wpAny_lookBehind hoD (by rw [hdD];exact pastItsLine_dict (yi hcD (by rw [List.length_cons];omega))) ?_)
 exact wpAny_pure (h _ ⟨(hs2.2 _ (Ne.symm I.ne)).trans I.obj,hn2,I.ne⟩ hs2)
theorem make_map {R:Result→Shared→Prop} {vs:List Value} {kw:List (Str×Value)} (X:K.In s.heap) (hm:PySem.W.makesIn K C=true)
  (hi:PySem.W.findIn K (.ref C) "__init__"=some (some (.ref f))) (hf:PySem.W.typeIn K (.ref f)=some (.type "function"))
  (h:codeAny (model prog w) (A.under (.builtin "type.__call__" ⟨.ref C::vs,kw⟩)) (.call (.ref f) ⟨.ref (s.heap.objs.size + 1)::vs,kw⟩) (PySem.W.InitBack (s.heap.objs.size + 1) R)
   { s with heap:=(s.heap.push PySem.W.emptyDict).push (PySem.W.instObj C s.heap.objs.size) }) :
  codeAny (model prog w) A (.call (.ref C) ⟨vs,kw⟩) R s:=by
 obtain ⟨hh,g,d,t,os⟩:=s
 exact PySem.W.make_core (PySem.W.makes_of X hm) (PySem.W.looks_findIn X hi) (fun self=>PySem.W.bind_fn X self hf) (.inl rfl) h
end
def jR (f:Str) (v:V):List (Str×V)→List (Str×V)
 | []=>[(f,v)]
 | (g,x)::r=>if g=f then (g,v)::r else (g,x)::jR f v r
theorem qC (f g:Str) (v:V):∀ fs:List (Str×V),(jR f v fs).lookup g=if g=f then some v else fs.lookup g
 | []=>by
  show List.lookup g [(f,v)]=_
  by_cases h:g=f
  ·have hb:(g==f)=true:=beq_iff_eq.mpr h
   simp only [List.lookup,hb,if_pos h]
  ·have hb:(g==f)=false:=beq_eq_false_iff_ne.mpr h
   simp only [List.lookup,hb,if_neg h]
 | (k,x)::r=>by
  have ih:=qC f g v r
  rw [show jR f v ((k,x)::r)=(if k=f then (k,v)::r else (k,x)::jR f v r) from rfl]
  by_cases hk:k=f
  ·rw [if_pos hk]
   by_cases h:g=k
   ·have hb:(g==k)=true:=beq_iff_eq.mpr h
    simp only [List.lookup,hb,if_pos (h.trans hk)]
   ·have hb:(g==k)=false:=beq_eq_false_iff_ne.mpr h
    simp only [List.lookup,hb,if_neg (fun e:g=f=>h (e.trans hk.symm))]
  ·rw [if_neg hk]
   by_cases h:g=k
   ·have hb:(g==k)=true:=beq_iff_eq.mpr h
    simp only [List.lookup,hb,if_neg (fun e:g=f=>hk (h.symm.trans e))]
   ·have hb:(g==k)=false:=beq_eq_false_iff_ne.mpr h
    simp only [List.lookup,hb]
    exact ih
theorem qbg (f:Str) (v:V):∀ fs:List (Str×V),f∈(jR f v fs).map (·.1)∧∀ g,g∈fs.map (·.1)→g∈(jR f v fs).map (·.1)
 | []=>⟨by simp [jR],fun g h=>by simp at h⟩
 | (k,x)::r=>by
  obtain ⟨i1,i2⟩:=qbg f v r
  rw [show jR f v ((k,x)::r)=(if k=f then (k,v)::r else (k,x)::jR f v r) from rfl]
  by_cases hk:k=f
  ·rw [if_pos hk]
   subst hk
   exact ⟨by simp,fun g h=>by simpa using h⟩
  ·rw [if_neg hk]
   refine ⟨?_,fun g h=>?_⟩
   ·rw [List.map_cons]
    exact List.mem_cons_of_mem _ i1
   ·rw [List.map_cons] at h ⊢
    rcases List.mem_cons.mp h with e | e
    ·exact List.mem_cons.mpr (.inl e)
    ·exact List.mem_cons_of_mem _ (i2 g e)
theorem zi (f:Str) (v:V):∀ fs:List (Str×V),(jR f v fs).length≤fs.length + 1
 | []=>by simp [jR]
 | (k,x)::r=>by
  have ih:=zi f v r
  rw [show jR f v ((k,x)::r)=(if k=f then (k,v)::r else (k,x)::jR f v r) from rfl]
  by_cases hk:k=f
  ·rw [if_pos hk,List.length_cons,List.length_cons];omega
  ·rw [if_neg hk,List.length_cons,List.length_cons];omega
theorem RelO.some_of {v:V} {o:Option Value} (r:RelO (some v) o):∃ u,o=some u∧RelV v u:=by
 cases o with
 | none=>exact (show False from r).elim
 | some u=>exact ⟨u,rfl,r⟩
theorem RelO.none_of {o:Option Value} (r:RelO none o):o=none:=by
 cases o with
 | none=>rfl
 | some u=>exact (show False from r).elim
theorem qb7 {v:V} {u:Value} (r:RelV v u):PySem.W.handedIn u=true:=by
 cases v with
 | non=>cases (show u=Value.none from r);rfl
 | bl b=>cases (show u=Value.bool b from r);rfl
 | int i=>obtain ⟨t,e⟩:=(show ∃ t,u=Value.int i t from r);cases e;rfl
 | str x=>obtain ⟨t,e⟩:=(show ∃ t,u=Value.str x t from r);cases e;rfl
 | byt b=>obtain ⟨t,e⟩:=(show ∃ t,u=Value.bytes b t from r);cases e;rfl
 | flt b=>obtain ⟨t,e⟩:=(show ∃ t,u=Value.float b t from r);cases e;rfl
 | ref a=>cases (show u=Value.ref a from r);rfl
 | ty n=>cases (show u=Value.type n from r);rfl
section
variable {P:Program} {w:World} {H H':Hp} {h h':Heap} {a C dx:Addr} {fs fs':List (Str×V)}
theorem qaS (hok:HOk P w H h) (e:H a=some (.ins C dx fs)):∃ mA,ObjM h a dx C mA∧(∀ f,RelO (fs.lookup f) (mA f))∧PySem.Within mA (fs.map (·.1))∧fs.length≤1000∧H dx=some (.own a):=by
 obtain ⟨d,z,ne,ob,mA,n,r,q⟩:=(show ObjOk P w H h a (.ins C dx fs) from hok a _ e)
 exact ⟨mA,⟨ob,n,ne⟩,r,q,z,d⟩
end
structure Cls (K:yg) (C:Addr):Prop where
 pg:PySem.W.plainGet K C Str.empty=true
 hd:PySem.W.hasDictIn K C=true
 po:PySem.W.plainOver K C=true
 sa:PySem.W.findIn K (.ref C) "__setattr__"=some (some (.builtin "object.__setattr__"))
theorem Cls.get {K:yg} {C:Addr} (c:Cls K C) (f:Str):PySem.W.plainGet K C f=true:=c.pg
def NoAttr (K:yg) (C:Addr) (f:Str):Prop:=PySem.W.findIn K (.ref C) f=some none
theorem NoAttr.taker {K:yg} {C:Addr} {f:Str} (n:NoAttr K C f):PySem.W.takerIn K C f=some none:=by
 unfold PySem.W.takerIn
 rw [show PySem.W.findIn K (.ref C) f=some none from n]
 rfl
structure Con (K:yg) (C:Addr) (f:Str) (v:V) (u:Value):Prop where
 at_:PySem.W.findIn K (.ref C) f=some (some u)
 rel:RelV v u
 get:PySem.W.specialIn K u "__get__"=some none
 cp:PySem.W.copiedNames.contains f=false
structure Meth (K:yg) (C:Addr) (m:Str) (f:Addr):Prop where
 at_:PySem.W.findIn K (.ref C) m=some (some (.ref f))
 fn:PySem.W.isFn K (.ref f)=true
 kp:PySem.W.keepIn K (.ref f)=true
section
variable {X:Cx} {pins:List (Addr×Obj)} {σ:St} {H:Hp} {s:Shared} {a C dx:Addr} {fs:List (Str×V)} {f:Str} {v:V} {A:Around} {E:Value→Shared→Prop}
theorem getattr_ok {b:Bool} {Q:Value→Shared→Prop} (I:Inv X pins σ H s) (e:H a=some (.ins C dx fs)) (c:Cls X.K C) (n:NoAttr X.K C f) (l:fs.lookup f=some v)
  (h:∀ u s',Inv X pins σ H s'→RelV v u→Q u s'):wpAny (model X.prog X.w) A (getAttr (.ref a) f b) Q E s:=by
 obtain ⟨mA,O,r,_,_,_⟩:=qaS I.hok e
 obtain ⟨u,hu,ru⟩:=RelO.some_of (v:=v) (o:=mA f) (by rw [← l];exact r f)
 exact get_map I.kIn O (c.get f) c.hd n hu (qb7 ru) (h u _ (I.tok _) ru)
theorem qaT {m:Str} {g:Addr} {pl:Sem Bool} {Q:Value×List Value→Shared→Prop} (I:Inv X pins σ H s) (e:H a=some (.ins C dx fs)) (c:Cls X.K C) (k:Meth X.K C m g) (l:fs.lookup m=none)
  (h:Q (.ref g,[.ref a]) s):wpAny (model X.prog X.w) A (getMethod (.ref a) m pl) Q E s:=by
 obtain ⟨mA,O,r,_,_,_⟩:=qaS I.hok e
 have hn:mA m=none:=RelO.none_of (by rw [← l];exact r m)
 exact get_meth I.kIn O (c.get m) k.at_ k.fn hn h
theorem setattr_ok {y:V} {u:Value} {Q:Unit→Shared→Prop} (I:Inv X pins σ H s) (e:H a=some (.ins C dx fs)) (c:Cls X.K C) (n:NoAttr X.K C f) (hl:fs.length < 1000) (ry:RelV y u)
  (h:∀ s',Inv X pins σ (upd H a (.ins C dx (jR f y fs))) s'→Q () s'):wpAny (model X.prog X.w) A (setAttr (.ref a) f u) Q E s:=by
 obtain ⟨mA,O,r,wi,_,ho⟩:=qaS I.hok e
 have hz:(fs.map (·.1)).length≤sizeLine:=by rw [ya,sizeLine_eq];omega
 refine set_map I.kIn O c.sa c.po n.taker c.hd wi hz fun h' O' sb=>h _ ?_
 have hd:∃ o,h'.get? dx=some o:=let ⟨o,_,_,e',_⟩:=O'.ns;⟨o,e'⟩
 refine I.write (x:=a) (e:=dx) (by rw [e];exact True.intro) (.inr ho) (fun b q hb z=>(sb.2 b hb).trans z) hd ?_
 refine ⟨by rw [qh O.ne];exact ho,?_,O.ne,O'.obj,_,O'.ns,fun g=>?_,fun g hg=>?_⟩
 ·have:=zi f y fs;omega
 ·show RelO ((jR f y fs).lookup g) (if g=f then some u else mA g)
  rw [qC]
  by_cases q:g=f
  ·rw [if_pos q,if_pos q];exact ry
  ·rw [if_neg q,if_neg q];exact r g
 ·by_cases q:g=f
  ·rw [q];exact (qbg f y fs).1
  ·refine (qbg f y fs).2 g (wi g fun z=>hg ?_)
   show (if g=f then some u else mA g)=none
   rw [if_neg q];exact z
theorem Inv.made (I:Inv X pins σ H s):Inv X pins σ (upd (upd H s.heap.objs.size (.own (s.heap.objs.size + 1))) (s.heap.objs.size + 1) (.ins C s.heap.objs.size []))
  { s with heap:=(s.heap.push PySem.W.emptyDict).push (PySem.W.instObj C s.heap.objs.size) }:=by
 have e1:(s.heap.push PySem.W.emptyDict).get? s.heap.objs.size=some PySem.W.emptyDict:=Heap.get?_push_size s.heap rfl
 have e2:((s.heap.push PySem.W.emptyDict).push (PySem.W.instObj C s.heap.objs.size)).get? (s.heap.objs.size + 1)=some (PySem.W.instObj C s.heap.objs.size):=by
  have:=Heap.get?_push_size (s.heap.push PySem.W.emptyDict) (o:=PySem.W.instObj C s.heap.objs.size) rfl
  rwa [Heap.size_push] at this
 have e3:(s.heap.push PySem.W.emptyDict).Ns s.heap.objs.size (fun _=>none):=⟨PySem.W.emptyDict,#[],_,e1,rfl,(fun e he=>absurd he (by simp)),fun _=>rfl⟩
 have I1:=I.laid (a:=s.heap.objs.size) (o:=.own (s.heap.objs.size + 1)) (h':=s.heap.push PySem.W.emptyDict) (t':=s.toks) (fun b u q=>Heap.get?_push_of_some _ q) (yh _) ⟨_,e1⟩
 refine I1.laid (a:=s.heap.objs.size + 1) (o:=.ins C s.heap.objs.size []) (t':=s.toks) (fun b u q=>Heap.get?_push_of_some _ q) (Nat.le_of_eq (Heap.size_push _ _)) ?_
 have ne:s.heap.objs.size≠s.heap.objs.size + 1:=Nat.ne_of_lt (Nat.lt_succ_self _)
 refine ⟨by rw [qh ne,qc],Nat.zero_le _,ne,e2,fun _=>none,(Heap.Ns1.of_empty e3).at fun o q=>Heap.get?_push_of_some _ q,fun _=>True.intro,fun y hy=>absurd rfl hy⟩
theorem attr_of {prog:Program} {w:World} {env:Env} {e:Expr} {f:Str} {pos:Pos} {s:Shared} {Q:Value→Shared→Prop} (hb:attributeBase e f env (eval e env)=eval e env)
  (h:wpAny (model prog w) A (eval e env) (fun o s₁=>wpAny (model prog w) A (getAttr o f true) Q E s₁) E s):wpAny (model prog w) A (eval (.Attribute e f pos) env) Q E s:=
 Attribute_any_ h (by rw [arm_eval_Attribute,hb])
end
section
variable {X:Cx} {o e value:Expr} {f:Str} {pos pos' tpos:Pos} {ta tv:TE}
end
section
variable {X:Cx} {pins:List (Addr×Obj)} {σ:St} {H:Hp} {s:Shared} {A:Around} {E:Value→Shared→Prop} {Q:Value→Shared→Prop} {c:Value} {b:Bool}
inductive TyOf (K:yg) (H:Hp):V→Value→Prop where
 | non:TyOf K H .non (.type "NoneType")
 | bl (x:Bool):TyOf K H (.bl x) (.type "bool")
 | int (i:Int):TyOf K H (.int i) (.type "int")
 | str (x:Str):TyOf K H (.str x) (.type "str")
 | flt (x:UInt64):TyOf K H (.flt x) (.type "float")
 | lst {a:Addr} {xs:List V} (e:H a=some (.lst xs)):TyOf K H (.ref a) (.type "list")
 | frz {a:Addr} {o:Obj} {xs:List V} (e:H a=some (.frz o (.lst xs))):TyOf K H (.ref a) (.type "list")
 | tup {a:Addr} {xs:List V} (e:H a=some (.tup xs)):TyOf K H (.ref a) (.type "tuple")
 | dK {a:Addr} {kvs:List (Key×V)} (e:H a=some (.dK kvs)):TyOf K H (.ref a) (.type "dict")
 | dT {a:Addr} {kvs:List (List Key×V)} (e:H a=some (.dT kvs)):TyOf K H (.ref a) (.type "dict")
 | ins {a C dx:Addr} {fs:List (Str×V)} (e:H a=some (.ins C dx fs)) (cl:Cls K C) (ha:PySem.W.findIn K (.ref C) "__class__"=some (some (.builtin "object.__class__")))
   (hn:PySem.W.specialIn K (.builtin "object.__class__") "__get__"=some (some (.builtin "getset_descriptor.__get__"))) (htk:PySem.W.takesIn K (.builtin "object.__class__")=some true)
   (hm:PySem.W.mroIn K C (.type "object")=some true):TyOf K H (.ref a) (.ref C)
end
structure Room (k:Nat) (A:Around):Prop where
 hd:A.handled=none
 dp:A.depth + 3 * k + 5 < recursionLimit
 un:A.units + 16 * k + 200 < cLine
 gd:A.guards=some []
theorem Room.mono {j k:Nat} {A:Around} (r:Room k A) (h:j≤k):Room j A:=⟨r.hd,by have:=r.dp;omega,by have:=r.un;omega,r.gd⟩
theorem Room.deeper {k:Nat} {A:Around} (r:Room (k + 1) A) (env:Env):Room k (A.deeper env):=
 ⟨r.hd,by have:=r.dp;show A.depth + 1 + 3 * k + 5 < _;omega,by have:=r.un;show A.units + 3 + 16 * k + 200 < _;omega,r.gd⟩
theorem make_depth {A:Around} {C:Addr} {us:List Value} {kw:List (Str×Value)}:(A.under (.builtin "type.__call__" ⟨.ref C::us,kw⟩)).depth=A.depth + 1:=by
 first | rfl | simp [Around.under,Code.weight,Code.isCreation,Code.isGuard,Code.isCaller,Code.frames,Code.isFrame,guardIds]
theorem make_units {A:Around} {C:Addr} {us:List Value} {kw:List (Str×Value)}:(A.under (.builtin "type.__call__" ⟨.ref C::us,kw⟩)).units=A.units + 1:=by
 first | rfl | simp [Around.under,Code.cUnits,Code.frames,Code.isFrame]
theorem make_guards {A:Around} {C:Addr} {us:List Value} {kw:List (Str×Value)}:(A.under (.builtin "type.__call__" ⟨.ref C::us,kw⟩)).guards=A.guards:=by
 first | rfl | simp [Around.under,Code.guards,Code.isGuard,guardIds,pushGuards]
theorem Room.make {k:Nat} {A:Around} (r:Room (k + 1) A) (C:Addr) (us:List Value) (kw:List (Str×Value)):Room k (A.under (.builtin "type.__call__" ⟨.ref C::us,kw⟩)):=
 ⟨r.hd,by have:=r.dp;rw [make_depth];omega,by have:=r.un;rw [make_units];omega,by rw [make_guards];exact r.gd⟩
theorem Room.depth {k:Nat} {A:Around} (r:Room k A):A.depth < recursionLimit:=by have:=r.dp;omega
def qc1:TA:=fun _ H Q=>Q [] H
def zK (ta:TE) (tr:TA):TA:=fun σ H Q=>ta σ H fun x H1=>tr σ H1 fun xs H2=>Q (x::xs) H2
section
variable {X:Cx} {e:Expr} {es:List Expr} {te:TE} {t:TA} {pos:Pos}
theorem qd:PA X [] qc1:=fun _ _ _ _ H Q I h=>Calls.spliced_nil ⟨[],H,I,.nil,h⟩
theorem qa (ha:PE X e te) (hr:PA X es t) (hs:starEach (e::es) X.env=(false,eval e X.env)::starEach es X.env:=by rfl):PA X (e::es) (zK te t):=by
 intro pos pins s σ H Q I h
 rw [hs]
 show wpAny _ _ (spliced ((false,eval e X.env)::backTo pos (starEach es X.env))) _ _ s
 refine Calls.spliced_cons (thn (ha pins s σ H _ I h) fun u s1 ⟨x,H1,I1,r1,q1⟩=>?_)
 exact thn (hr pos pins s1 σ H1 _ I1 q1) fun us s2 ⟨xs,H2,I2,r2,q2⟩=>⟨x::xs,H2,I2,.cons r1 r2,q2⟩
def qgm (t:TA):TE:=fun σ H Q=>t σ H fun xs H1=>xs.length≤sizeLine∧∀ p,H1 p=none→Q (.ref p) (upd H1 p (.tup xs))
def qex (t:TA):TE:=fun σ H Q=>t σ H fun xs H1=>xs.length≤sizeLine∧∀ p,H1 p=none→Q (.ref p) (upd H1 p (.lst xs))
theorem jJ {x1} (h:PA X es t):PE X (.Tuple es x1 pos) (qgm t):=by
 intro pins s σ H Q I hq
 refine wpAny_Tuple_spliced (thn (h pos pins s σ H _ I hq) fun us s1 ⟨xs,H1,I1,r,z,q⟩=>⟨by rw [← r.length];exact z,?_⟩)
 have hf:H1 s1.heap.objs.size=none:=I1.hok.fresh (yh _)
 refine ⟨.ref s1.heap.objs.size,upd H1 s1.heap.objs.size (.tup xs),I1.laid (t':=s1.toks) (fun b u e=>Heap.get?_push_of_some _ e) (yh _) ?_,rfl,q _ hf⟩
 exact ⟨z,us,r,⟨_,Heap.get?_push_size _ rfl,rfl,_,rfl⟩⟩
theorem jv (h:PA X es t):PE X (.List es pos) (qex t):=by
 intro pins s σ H Q I hq
 refine wpAny_List_spliced (thn (h pos pins s σ H _ I hq) fun us s1 ⟨xs,H1,I1,r,z,q⟩=>⟨by rw [← r.length];exact z,?_⟩)
 have hf:H1 s1.heap.objs.size=none:=I1.hok.fresh (yh _)
 refine ⟨.ref s1.heap.objs.size,upd H1 s1.heap.objs.size (.lst xs),I1.laid (t':=s1.toks) (fun b u e=>Heap.get?_push_of_some _ e) (yh _) ?_,rfl,q _ hf⟩
 exact ⟨z,us,0,r,Heap.get?_push_size _ rfl⟩
end
abbrev Sp:=List V→Hp→VK→XK→Prop
abbrev CXT:=List Env→Hp→Shared→XK→Value→Shared→Prop
structure Env0 (P:Program) (w:World) (K:yg) (mg:Str→Option Value) (base:Heap) (A:Around) (outer:List Env) (s:Shared) (H:Hp):Prop where
 frames:A.frames=some outer
 mod:Mod K mg base
 bs:∀ b o,base.get? b=some o→s.heap.get? b=some o∧H b=none
 bsz:base.objs.size≤s.heap.objs.size
 funs:s.heap.FunFrames base outer
 frf:∀ b∈frs outer,H b=none
 hok:HOk P w H s.heap
 bare:AllBare s.gens
def CE (outer:List Env) (P:Program) (w:World) (H:Hp) (s:Shared) (Q:VK) (u:Value) (s':Shared):Prop:=
 ∃ v H',s'.os=s.os∧AllBare s'.gens∧Un (frs outer) [] H H' s.heap s'.heap∧HOk P w H' s'.heap∧RelV v u∧Q v H'
def CR (CX:CXT) (outer:List Env) (P:Program) (w:World) (H:Hp) (s:Shared) (Q:VK) (E:XK) (r:Result) (s':Shared):Prop:=
 match r with
 | .ok (.ret u)=>CE outer P w H s Q u s'
 | .ok _=>False
 | .error e=>CX outer H s E e s'
structure FnOk (P:Program) (w:World) (K:yg) (mg:Str→Option Value) (base:Heap) (CX:CXT) (k:Nat) (f:Addr) (fd:FuncData) (ps:List Str) (sp:Sp):Prop where
 len:∀ vs H Q E,sp vs H Q E→vs.length=ps.length
 run:∀ (A:Around) (outer:List Env) (s:Shared) (H:Hp) (args:Args) (us:List Value) (vs:List V) (Q:VK) (E:XK),Room k A→Env0 P w K mg base A outer s H→BindsTo s fd args (ps.zip us)→Vals vs us→sp vs H Q E →
  codeAny (model P w) A (.call (.ref f) args) (CR CX outer P w H s Q E) s
theorem Env0.make {P:Program} {w:World} {K:yg} {mg:Str→Option Value} {base:Heap} {A:Around} {outer:List Env} {s:Shared} {H:Hp} (e:Env0 P w K mg base A outer s H) (C:Addr) (us:List Value) (kw:List (Str×Value)) :
  Env0 P w K mg base (A.under (.builtin "type.__call__" ⟨.ref C::us,kw⟩)) outer s H:=⟨by first | exact e.frames | (simpa [Around.under,Code.envs,Code.isFrame,pushEnvs] using e.frames),e.mod,e.bs,e.bsz,e.funs,e.frf,e.hok,e.bare⟩
section
variable {X:Cx} {pins:List (Addr×Obj)} {σ:St} {H:Hp} {s s':Shared}
theorem Inv.env0 (I:Inv X pins σ H s):Env0 X.prog X.w X.K X.mg X.base X.A X.stack s H:=
 ⟨I.ok.frames,I.ok.mod,I.bs,yi I.ok.bsz I.sz,I.stack,I.stkFree,I.hok,I.bare⟩
theorem Inv.after {Q:VK} {u:Value} (I:Inv X pins σ H s) (h:CE X.stack X.prog X.w H s Q u s'):EP X pins σ Q u s':=by
 obtain ⟨v,H',os,bare,un,hok,r,q⟩:=h
 obtain ⟨hh,g,d,t,os'⟩:=s'
 obtain rfl:os'=s.os:=os
 exact ⟨v,H',I.call (h':=hh) (g':=g) (d':=d) (t':=t) (ch:=[]) un hok bare (fun b z=>absurd z (by simp)),r,q⟩
end
def qcE (sp:Sp) (dvs:List V) (E:XK) (t:TA):TE:=fun σ H Q=>t σ H fun vs H1=>sp (vs++dvs) H1 Q E
def qdP (C:Addr) (m:Str) (sp:Sp) (dvs:List V) (E:XK) (ta:TE) (t:TA):TE:=fun σ H Q=>ta σ H fun x H1=>∃ a dx fs,x=.ref a∧H1 a=some (.ins C dx fs)∧fs.lookup m=none ∧
 t σ H1 fun vs H2=>sp (x::(vs++dvs)) H2 Q E
def qfp (C:Addr) (sp:Sp) (dvs:List V) (E:XK) (t:TA):TE:=fun σ H Q=>t σ H fun vs H1=>∀ x dx,H1 x=none→H1 dx=none→dx≠x →
 sp (.ref x::(vs++dvs)) (upd (upd H1 dx (.own x)) x (.ins C dx [])) (fun v H2=>v=.non∧Q (.ref x) H2) E
def Binds (K:yg) (fd:FuncData) (ps:List Str) (ds:List Value):Prop:=
 ∀ (s:Shared) (us:List Value),K.In s.heap→(us++ds).length=ps.length→BindsTo s fd ⟨us,[]⟩ (ps.zip (us++ds))
theorem Binds.all {K:yg} {fd:FuncData} {ps:List Str} (h:∀ us:List Value,us.length=ps.length→bindArgs fd ⟨us,[]⟩=pure (ps.zip us)):Binds K fd ps []:=fun s us _ hl=>by
 rw [List.append_nil] at hl ⊢
 exact .of_eq (h us hl)
def qad (CX:CXT) (X:Cx) (E:XK):Prop:=∀ (pins:List (Addr×Obj)) (σ:St) (H:Hp) (s:Shared) (e:Value) (s':Shared),Inv X pins σ H s→CX X.stack H s E e s'→X.xe e s'
section
variable {X:Cx} {CX:CXT} {k:Nat} {f C:Addr} {fd:FuncData} {ps:List Str} {sp:Sp} {dvs:List V} {ds:List Value} {E:XK} {x m:Str} {p pos apos:Pos} {e o:Expr} {es:List Expr} {ta:TE} {t:TA}
theorem qc2 {pins:List (Addr×Obj)} {σ:St} {H:Hp} {s:Shared} {Q:VK} {us:List Value} {vs:List V} (F:FnOk X.prog X.w X.K X.mg X.base CX k f fd ps sp) (hr:Room k X.A) (hb:Binds X.K fd ps ds) (hd:Vals dvs ds) (hx:qad CX X E)
  (I:Inv X pins σ H s) (r:Vals vs us) (h:sp (vs++dvs) H Q E):wpAny (model X.prog X.w) X.A (call (.ref f) us) (EP X pins σ Q) X.xe s:=by
 have r2:Vals (vs++dvs) (us++ds):=r.append hd
 have hl:(us++ds).length=ps.length:=by rw [← r2.length];exact F.len _ _ _ _ h
 refine wpAny_call (codeAny_mono (F.run X.A X.stack s H ⟨us,[]⟩ (us++ds) (vs++dvs) Q E hr I.env0 (hb s us I.kIn hl) r2 h) fun r s' hq=>?_)
 cases r with
 | error e=>exact hx pins σ H s e s' I hq
 | ok fl =>
  cases fl with
  | ret u=>exact I.after hq
  | next=>exact False.elim hq
  | brk=>exact False.elim hq
  | cont=>exact False.elim hq
theorem pe_call (F:FnOk X.prog X.w X.K X.mg X.base CX k f fd ps sp) (hr:Room k X.A) (hg:Gl X x) (hm:X.mg x=some (.ref f)) (hk:PySem.W.keepIn X.K (.ref f)=true) (hb:Binds X.K fd ps ds) (hd:Vals dvs ds) (hx:qad CX X E)
  (ha:PA X (e::es) t) (hdb:(x==("__debug__":Str))=false:=by decide) (he:starEach (e::es) X.env=(false,eval e X.env)::starEach es X.env:=by rfl) (hpl:(backTo pos (starEach es X.env)).any (·.1)=false:=by rfl) :
  PE X (.Call (.Name x p) (e::es) [] pos) (qcE sp dvs E t):=by
 intro pins s σ H Q I h
 refine wpAny_Call_Name_kw (qaa I hg hm ?_ hdb)
 refine PySem.W.callWith_K (h₀:=X.base) I.ok.mod.kin hk (thn (ha pos pins s σ H _ I h) fun us s1 ⟨vs,H1,I1,r,q⟩=>⟨I1.kIn,?_⟩) he hpl
 exact qc2 F hr hb hd hx I1 r q
theorem pe_meth {pl:Sem Bool} (he:PE X o ta) (c:Cls X.K C) (hm:Meth X.K C m f) (F:FnOk X.prog X.w X.K X.mg X.base CX k f fd ps sp) (hr:Room k X.A) (hb:Binds X.K fd ps ds) (hd:Vals dvs ds) (hx:qad CX X E) (ha:PA X (e::es) t)
  (hst:starEach (e::es) X.env=(false,eval e X.env)::starEach es X.env:=by rfl) (hpl:(backTo pos (starEach es X.env)).any (·.1)=false:=by rfl)
  (ht:eval (.Call (.Attribute o m apos) (e::es) [] pos) X.env=(do
   let ov ← eval o X.env
   standAt apos.atName
   let (f,first) ← holding [ov] (getMethod ov m pl)
   callWith pos f first (backTo pos (starEach (e::es) X.env)) (backToKw pos (keywordEach [] X.env))):=by rfl) :
  PE X (.Call (.Attribute o m apos) (e::es) [] pos) (qdP C m sp dvs E ta t):=by
 intro pins s σ H Q I h
 refine PySem.W.methodCall_KW (pl:=pl) (thn (he pins s σ H _ I h) fun u s1 ⟨x,H1,I1,rx,a,dx,fs,ex,ea,l,q⟩=>?_) ht
 subst ex
 obtain rfl:u=Value.ref a:=rx
 refine qaT I1 ea c hm l ?_
 refine PySem.W.callWith_K (first:=[.ref a]) (h₀:=X.base) I.ok.mod.kin hm.kp (thn (ha pos pins s1 σ H1 _ I1 q) fun us s2 ⟨vs,H2,I2,r,q2⟩=>⟨I2.kIn,?_⟩) hst hpl
 exact qc2 (us:=.ref a::us) (vs:=.ref a::vs) F hr hb hd hx I2 (.cons rfl r) q2
theorem pe_meth0 {pl:Sem Bool} (he:PE X o ta) (c:Cls X.K C) (hm:Meth X.K C m f) (F:FnOk X.prog X.w X.K X.mg X.base CX k f fd ps sp) (hr:Room k X.A) (hb:Binds X.K fd ps ds) (hd:Vals dvs ds) (hx:qad CX X E)
  (ht:eval (.Call (.Attribute o m apos) [] [] pos) X.env=(do
   let ov ← eval o X.env
   standAt apos.atName
   let (f,first) ← holding [ov] (getMethod ov m pl)
   callWith pos f first (backTo pos (starEach [] X.env)) (backToKw pos (keywordEach [] X.env))):=by rfl) :
  PE X (.Call (.Attribute o m apos) [] [] pos) (qdP C m sp dvs E ta qc1):=by
 intro pins s σ H Q I h
 refine PySem.W.methodCall_KW (pl:=pl) (thn (he pins s σ H _ I h) fun u s1 ⟨x,H1,I1,rx,a,dx,fs,ex,ea,l,q⟩=>?_) ht
 subst ex
 obtain rfl:u=Value.ref a:=rx
 refine qaT I1 ea c hm l ?_
 exact PySem.W.callWith_K0 (first:=[.ref a]) I1.kIn hm.kp (qc2 (us:=[.ref a]) (vs:=[.ref a]) F hr hb hd hx I1 (.cons rfl .nil) q)
structure Mk (K:yg) (C f:Addr):Prop where
 makes:PySem.W.makesIn K C=true
 init:PySem.W.findIn K (.ref C) "__init__"=some (some (.ref f))
 fn:PySem.W.isFn K (.ref f)=true
 kp:PySem.W.keepIn K (.ref C)=true
theorem run_make {pins:List (Addr×Obj)} {σ:St} {H:Hp} {s:Shared} {Q:VK} {us:List Value} {vs:List V} (M:Mk X.K C f) (F:FnOk X.prog X.w X.K X.mg X.base CX k f fd ps sp) (hr:Room (k + 1) X.A) (hb:Binds X.K fd ps ds) (hd:Vals dvs ds)
  (hx:qad CX X E) (I:Inv X pins σ H s) (r:Vals vs us)
  (h:∀ x dx,H x=none→H dx=none→dx≠x→sp (.ref x::(vs++dvs)) (upd (upd H dx (.own x)) x (.ins C dx [])) (fun v H2=>v=.non∧Q (.ref x) H2) E) :
  wpAny (model X.prog X.w) X.A (call (.ref C) us) (EP X pins σ Q) X.xe s:=by
 have hq:=h (s.heap.objs.size + 1) s.heap.objs.size (I.hok.fresh (Nat.le_succ _)) (I.hok.fresh (yh _)) (Nat.ne_of_lt (Nat.lt_succ_self _))
 have I2:=Inv.made (C:=C) I
 have r2:Vals (V.ref (s.heap.objs.size + 1)::(vs++dvs)) (Value.ref (s.heap.objs.size + 1)::(us++ds)):=.cons rfl (r.append hd)
 have hl:(Value.ref (s.heap.objs.size + 1)::us++ds).length=ps.length:=by
  have e:=r2.length
  rw [F.len _ _ _ _ hq] at e
  exact e.symm
 refine wpAny_call (make_map (f:=f) I.kIn M.makes M.init (beq_iff_eq.mp M.fn) (codeAny_mono (F.run _ X.stack _ _ ⟨Value.ref (s.heap.objs.size + 1)::us,[]⟩ (Value.ref (s.heap.objs.size + 1)::(us++ds)) _ _ E (hr.make C us [])
  (I2.env0.make C us []) (hb _ (Value.ref (s.heap.objs.size + 1)::us) I2.kIn hl) r2 hq) fun r s' hq'=>?_))
 cases r with
 | error e=>exact hx pins σ _ _ e s' I2 hq'
 | ok fl =>
  cases fl with
  | ret u =>
   obtain ⟨v,H',I3,rv,ev,q3⟩:=I2.after hq'
   subst ev
   exact ⟨rv,⟨V.ref (s.heap.objs.size + 1),H',I3,rfl,q3⟩⟩
  | next=>exact False.elim hq'
  | brk=>exact False.elim hq'
  | cont=>exact False.elim hq'
theorem pe_make (M:Mk X.K C f) (F:FnOk X.prog X.w X.K X.mg X.base CX k f fd ps sp) (hr:Room (k + 1) X.A) (hg:Gl X x) (hm:X.mg x=some (.ref C)) (hb:Binds X.K fd ps ds) (hd:Vals dvs ds) (hx:qad CX X E)
  (ha:PA X (e::es) t) (hdb:(x==("__debug__":Str))=false:=by decide) (he:starEach (e::es) X.env=(false,eval e X.env)::starEach es X.env:=by rfl) (hpl:(backTo pos (starEach es X.env)).any (·.1)=false:=by rfl) :
  PE X (.Call (.Name x p) (e::es) [] pos) (qfp C sp dvs E t):=by
 intro pins s σ H Q I h
 refine wpAny_Call_Name_kw (qaa I hg hm ?_ hdb)
 refine PySem.W.callWith_K (h₀:=X.base) I.ok.mod.kin M.kp (thn (ha pos pins s σ H _ I h) fun us s1 ⟨vs,H1,I1,r,q⟩=>⟨I1.kIn,?_⟩) he hpl
 exact run_make M F hr hb hd hx I1 r q
end
section
variable {X:Cx} {CX:CXT} {k:Nat} {f C:Addr} {fd:FuncData} {ps ks:List Str} {sp:Sp} {E:XK} {x m:Str} {p pos apos kpos:Pos} {e o:Expr} {es:List Expr} {kws:List Keyword} {te ta:TE} {t tk:TA} {nm:Option Str}
structure KBinds (K:yg) (fd:FuncData) (ps ks:List Str) (g:List Value→List Value→List Value) (gV:List V→List V→List V):Prop where
 to:∀ (s:Shared) (us ws:List Value),K.In s.heap→(g us ws).length=ps.length→BindsTo s fd ⟨us,ks.zip ws⟩ (ps.zip (g us ws))
 rel:∀ {vs:List V} {us:List Value} {zs:List V} {ws:List Value},Vals vs us→Vals zs ws→Vals (gV vs zs) (g us ws)
variable {g:List Value→List Value→List Value} {gV:List V→List V→List V}
end
structure FnScope (N P:List Str) (sc:Scope):Prop where
 kind:sc.kind=.function
 co:sc.isCoroutine=false
 gen:sc.isGenerator=false
 nd:N.Nodup
 pre:N.take P.length=P
 par:∀ x∈P,sc.names.lookup x=some .local∨sc.names.lookup x=some .cell
 nofree:∀ y∈sc.names,y.2≠.free
theorem fS {N P:List Str} {sc:Scope} (a:sc.kind=.function:=by rfl) (b:sc.isCoroutine=false:=by rfl) (c:sc.isGenerator=false:=by rfl) (d:N.Nodup:=by decide +kernel) (e:N.take P.length=P:=by rfl) (f:∀ x∈P,sc.names.lookup x=some .local∨sc.names.lookup x=some .cell:=by decide +kernel) (g:∀ y∈sc.names,y.2≠.free:=by decide +kernel):FnScope N P sc:=⟨a,b,c,d,e,f,g⟩
theorem qb8 {kindOf:Str→Option NameKind} {x:Str}:∀ {binds:List (Str×Value)} {m:Str→Option Value},(∀ v,(x,v)∉binds)→bindL kindOf binds m x=m x
 | [],_,_=>rfl
 | (n,v)::r,m,h=>by
  unfold bindL
  rw [qb8 fun w hw=>h w (List.mem_cons_of_mem _ hw)]
  split
  ·have:x≠n:=by rintro rfl;exact h v List.mem_cons_self
   simp [this]
  ·rfl
theorem qb9 {kindOf:Str→Option NameKind} {x:Str}:∀ {binds:List (Str×Value)} {m:Str→Option Value},(∀ v,(x,v)∉binds)→bindC kindOf binds m x=m x
 | [],_,_=>rfl
 | (n,v)::r,m,h=>by
  unfold bindC
  rw [qb9 fun w hw=>h w (List.mem_cons_of_mem _ hw)]
  split
  ·rfl
  ·have:x≠n:=by rintro rfl;exact h v List.mem_cons_self
   simp [this]
theorem qca {kindOf:Str→Option NameKind} {x:Str} {v:Value}:∀ {P:List Str} {vs:List Value} {i:Nat} {m:Str→Option Value},P.Nodup→P[i]?=some x→vs[i]?=some v→kindOf x=some .local →
  bindL kindOf (P.zip vs) m x=some v
 | [],_,_,_,_,h,_,_=>by simp at h
 | _::_,[],_,_,_,_,h,_=>by simp at h
 | p::P,w::vs,0,m,nd,h1,h2,hk=>by
  simp at h1 h2;subst h1;subst h2
  show bindL kindOf ((p,w)::P.zip vs) m p=_
  unfold bindL
  rw [qb8 fun v hv=>(yo.mp nd).1 (List.of_mem_zip hv).1,if_pos hk]
  simp
 | p::P,w::vs,i + 1,m,nd,h1,h2,hk=>by
  show bindL kindOf ((p,w)::P.zip vs) m x=_
  unfold bindL
  exact qca (i:=i) (yo.mp nd).2 (by simpa using h1) (by simpa using h2) hk
theorem qcb {kindOf:Str→Option NameKind} {x:Str} {v:Value}:∀ {P:List Str} {vs:List Value} {i:Nat} {m:Str→Option Value},P.Nodup→P[i]?=some x→vs[i]?=some v→kindOf x≠some .local →
  bindC kindOf (P.zip vs) m x=some v
 | [],_,_,_,_,h,_,_=>by simp at h
 | _::_,[],_,_,_,_,h,_=>by simp at h
 | p::P,w::vs,0,m,nd,h1,h2,hk=>by
  simp at h1 h2;subst h1;subst h2
  show bindC kindOf ((p,w)::P.zip vs) m p=_
  unfold bindC
  rw [qb9 fun v hv=>(yo.mp nd).1 (List.of_mem_zip hv).1,if_neg hk]
  simp
 | p::P,w::vs,i + 1,m,nd,h1,h2,hk=>by
  show bindC kindOf ((p,w)::P.zip vs) m x=_
  unfold bindC
  exact qcb (i:=i) (yo.mp nd).2 (by simpa using h1) (by simpa using h2) hk
def start (N:List Str) (vs:List V):St:=vs.map some++List.replicate (N.length - vs.length) none
def qdF (CX:CXT) (P:Program) (w:World) (K:yg) (mg:Str→Option Value) (base:Heap) (N:List Str) (qual:Str) (scope:Scope) (f:Addr) (cd:Value) (A:Around) (outer:List Env) (s:Shared) (H:Hp) (E:XK):Cx where
 prog:=P
 w:=w
 K:=K
 mg:=mg
 base:=base
 A:=A.deeper (envOfC qual scope s.heap.objs.size f cd)
 N:=N
 s₀:=s
 H₀:=H
 env:=envOfC qual scope s.heap.objs.size f cd
 outer:=outer
 stack:=envOfC qual scope s.heap.objs.size f cd::outer
 ex:=[]
 calm:=true
 fn:=fun _=>true
 pn:=[]
 xe:=fun e s'=>wpAny (model P w) (A.deeper (envOfC qual scope s.heap.objs.size f cd)) (leaving (envOfC qual scope s.heap.objs.size f cd) e) (fun _ s''=>CX outer H s E e s'') (fun e' s''=>CX outer H s E e' s'') s'
theorem qc3 {sc:Scope} {n:Nat} {x:Str} (h:sc.names.lookup x=some .cell):∃ c,(cellsFrom n sc.names []).lookup x=some c:=by
 have q:=PySem.W.cellsFrom_some sc.names n [] (.inl h)
 exact Option.isSome_iff_exists.mp q
theorem qcc {CX:CXT} {P:Program} {w:World} {K:yg} {mg:Str→Option Value} {base:Heap} {N ps:List Str} {qual:Str} {scope:Scope} {f:Addr} {cd:Value} {A:Around} {outer:List Env} {s s1:Shared} {H:Hp} {E:XK} {us:List Value} {vs:List V}
  (S:FnScope N ps scope) (hd:A.handled=none) (e0:Env0 P w K mg base A outer s H) (hl:vs.length=ps.length) (r:Vals vs us)
  (x:InCallC s s.heap.objs.size (bindL (envOfC qual scope s.heap.objs.size f cd).kindOf (ps.zip us) fun _=>none) (cellsFrom (s.heap.objs.size + 1) scope.names []) (bindC (envOfC qual scope s.heap.objs.size f cd).kindOf (ps.zip us) fun _=>none) s1) :
  Inv (qdF CX P w K mg base N qual scope f cd A outer s H E) [] (start N vs) H s1:=by
 have hpl:ps.length≤N.length:=by have:=congrArg List.length S.pre;rw [List.length_take] at this;omega
 obtain ⟨h1,tk,rfl,hk⟩:=x.done
 have noA:∀ b:Addr,b∉(qdF CX P w K mg base N qual scope f cd A outer s H E).ex:=fun b z=>absurd (show b∈([]:List Addr) from z) (by simp)
 refine ⟨⟨e0.mod,S.kind,rfl,rfl,yh _,fun y z c h1 h2=>?_,fun y hy=>?_,fun y c _ h=>?_,fun _=>hd,Around.frames_deeper e0.frames,.inr ⟨rfl,rfl⟩,fun b z=>absurd z (noA b),e0.bs,e0.bsz,fun b _ _=>noA b,fun b z=>absurd z (noA b),e0.funs,e0.frf⟩,
  rfl,e0.bare,Un.kept hk,⟨_,x.toInCall.ns,fun i y v h1 h2 h3=>?_⟩,fun y c h=>⟨_,x.cell y c h⟩,e0.hok.fresh (yh _),fun y c h=>?_,fun p hp=>absurd (show p∈([]:List (Addr×Obj)) from hp) (by simp),e0.hok.kept hk,?_⟩
 ·exact name_of_addr x.apart (PySem.mem_of_lookup h1) (PySem.mem_of_lookup h2)
 ·have hy:scope.names.lookup y=some .cell∨scope.names.lookup y=some .free:=hy
  rcases hy with hy | hy
  ·exact qc3 hy
  ·exact absurd rfl (S.nofree _ (PySem.mem_of_lookup hy))
 ·exact Nat.le_of_lt (x.above y c (PySem.mem_of_lookup h))
 ·have hi:i < vs.length:=by
   unfold start at h2
   by_cases hi:i < vs.length
   ·exact hi
   ·rw [List.getElem?_append_right (by simpa using hi)] at h2
    rw [List.getElem?_replicate] at h2
    split at h2<;>cases h2
  have ha:vs[i]?=some v:=by
   unfold start at h2
   rw [List.getElem?_append_left (by simpa using hi),yd] at h2
   cases e:vs[i]? with
   | none=>rw [e] at h2;cases h2
   | some a=>rw [e] at h2;cases h2;rfl
  obtain ⟨u,hu,rv⟩:=r.get ha
  have hp:ps[i]?=some y:=by
   rw [← S.pre,List.getElem?_take_of_lt (by omega)];exact h1
  have ndP:ps.Nodup:=by rw [← S.pre];exact S.nd.sublist (List.take_sublist _ _)
  refine ⟨u,rv,?_⟩
  rcases S.par y (ye hp) with k | k
  ·exact .inl ⟨k,qca ndP hp hu k⟩
  ·obtain ⟨c,e⟩:=qc3 (n:=s.heap.objs.size + 1) k
   refine .inr ⟨.inl k,c,e,?_⟩
   have q:=x.cell y c e
   rw [qcb ndP hp hu (by show scope.names.lookup y≠_;rw [k];decide)] at q
   exact q
 ·exact e0.hok.fresh (Nat.le_of_lt (x.above y c (PySem.mem_of_lookup h)))
 ·unfold start
  show _=N.length
  rw [List.length_append,ya,List.length_replicate]
  omega
theorem qfQ {CX:CXT} {P:Program} {w:World} {K:yg} {mg:Str→Option Value} {base:Heap} {k:Nat} {f:Addr} {name qual:Str} {params:Arguments} {body:List Stmt} {scope:Scope} {dV kV doc pm cdv ct oc:Value} {an od:Option Addr}
  {osl:Array (Option Value)} {N ps:List Str} {sp:Sp} (lk:K.lookup f=some ⟨oc,od,.func (PySem.W.fnOf name qual params body scope dV kV doc pm an cdv ct),osl⟩) (hcd:PySem.W.codeIn K cdv qual=true) (S:FnScope N ps scope)
  (len:∀ vs H Q E,sp vs H Q E→vs.length=ps.length)
  (hbody:∀ (A:Around) (outer:List Env) (s:Shared) (H:Hp) (vs:List V) (Q:VK) (E:XK),Room k (A.deeper (envOfC qual scope s.heap.objs.size f cdv))→sp vs H Q E →
   ∃ t,PSs (qdF CX P w K mg base N qual scope f cdv A outer s H E) body t∧t { nx:=fun _ H'=>Q .non H',rt:=Q } (start N vs) H) :
  FnOk P w K mg base CX (k + 1) f (PySem.W.fnOf name qual params body scope dV kV doc pm an cdv ct) ps sp:=by
 refine ⟨len,fun A outer s H args us vs Q E hr e0 hb r hsp=>?_⟩
 have hl:=len _ _ _ _ hsp
 have KX:K.In s.heap:=e0.mod.kin.keeps fun b o e=>(e0.bs b o e).1
 have lim:s.heap.NoLimit:=e0.mod.nolimit.keeps fun b o e=>(e0.bs b o e).1
 have hkind:∀ y∈ps.zip us,scope.names.lookup y.1=some .local∨(scope.names.lookup y.1=some .cell∧((cellsFrom (s.heap.objs.size + 1) scope.names []).lookup y.1).isSome=true):=fun ⟨n,v⟩ hy=>by
  rcases S.par n (List.of_mem_zip hy).1 with q | q
  ·exact .inl q
  ·exact .inr ⟨q,PySem.W.cellsFrom_some _ _ _ (.inl q)⟩
 refine codeAny_call_function hr.depth (KX _ _ lk) rfl S.co S.gen rfl (PySem.W.codeRec_of KX hcd) (hb _ _ _ _ ?_)
 refine wpAny_newFunctionEnv_cells S.kind hkind fun env he s1 x=>?_
 subst he
 refine ⟨lim.keeps x.toInCall.keep,codeAny_func ?_⟩
 obtain ⟨t,ht,hq⟩:=hbody A outer s H vs Q E (hr.deeper _) hsp
 have I:Inv (qdF CX P w K mg base N qual scope f cdv A outer s H E) [] (start N vs) H s1:=qcc S hr.hd e0 hl r x
 refine wpAny_mono (ht [] s1 (start N vs) H _ I hq) (fun fl s' hs=>?_) fun e s' hs=>hs
 have fin:∀ {σ':St} {H':Hp} {v:V} {u:Value},Inv (qdF CX P w K mg base N qual scope f cdv A outer s H E) [] σ' H' s'→RelV v u→Q v H'→CE outer P w H s Q u s':=
  fun {σ' H' v u} J rv q=>⟨v,H',J.os,J.bare,J.base,J.hok,rv,q⟩
 cases fl with
 | ret u =>
  obtain ⟨v,σ',H',J,rv,q⟩:=hs
  exact fin J rv q
 | next =>
  obtain ⟨σ',H',J,q⟩:=hs
  exact fin (v:=V.non) (u:=Value.none) J rfl q
 | brk =>
  obtain ⟨_,_,_,q⟩:=hs
  exact False.elim q
 | cont =>
  obtain ⟨_,_,_,q⟩:=hs
  exact False.elim q
section
variable {X:Cx} {x:Str} {p pos:Pos} {e:Expr} {es:List Expr} {t:TA} {id T:String} {r:List V→Hp→VK→Prop}
def tCB (r:List V→Hp→VK→Prop) (t:TA):TE:=fun σ H Q=>t σ H fun vs H1=>r vs H1 Q
theorem qm (hc:zY X (.builtin id) r) (hg:Gl X x) (hm:X.mg x=none) (hv:bootBuiltins x=some (.builtin id)) (ha:PA X (e::es) t) (hn:x≠"__name__":=by decide) (hdb:(x==("__debug__":Str))=false:=by decide)
  (he:starEach (e::es) X.env=(false,eval e X.env)::starEach es X.env:=by rfl) (hpl:(backTo pos (starEach es X.env)).any (·.1)=false:=by rfl):PE X (.Call (.Name x p) (e::es) [] pos) (tCB r t):=by
 intro pins s σ H Q I h
 refine wpAny_Call_Name_kw (qaC I hg hm hv ?_ hn hdb)
 exact PyProof.Rows.callWith_builtin1 (thn (ha pos pins s σ H _ I h) fun us s1 ⟨vs,H1,I1,r1,q1⟩=>hc pins s1 σ H1 vs us Q I1 r1 q1) he hpl
theorem zj (hc:zY X (.type T) r) (hg:Gl X x) (hm:X.mg x=none) (hv:bootBuiltins x=some (.type T)) (ha:PA X (e::es) t) (hn:x≠"__name__":=by decide) (hdb:(x==("__debug__":Str))=false:=by decide)
  (he:starEach (e::es) X.env=(false,eval e X.env)::starEach es X.env:=by rfl) (hpl:(backTo pos (starEach es X.env)).any (·.1)=false:=by rfl):PE X (.Call (.Name x p) (e::es) [] pos) (tCB r t):=by
 intro pins s σ H Q I h
 refine wpAny_Call_Name_kw (qaC I hg hm hv ?_ hn hdb)
 exact PyProof.Rows.callWith_type1 (thn (ha pos pins s σ H _ I h) fun us s1 ⟨vs,H1,I1,r1,q1⟩=>hc pins s1 σ H1 vs us Q I1 r1 q1) he hpl
end
end L2
namespace HT
open PySem PyProof.Rows
section
open PySem.SeqAt
open PySem.AutoSeq1 (wpAny_loadPart')
open PySem.MeetsSeq PySem.MeetsSeq2 PySem.MeetsSeq3
end
section
variable {prog:Program} {w:World} {A:Around} {E:Value→Shared→Prop} {s:Shared}
theorem cat_tup {t b:Addr} {vs ws:List Value} {Q:Value→Shared→Prop} (ht:IsTup s.heap t vs.toArray) (hb:IsTup s.heap b ws.toArray) (hv:vs≠[])
  (h1:ws=[]→Q (.ref t) s) (h2:ws≠[]→Q (.ref s.heap.objs.size) { s with heap:=s.heap.push { cls:=.type "tuple",data:=.seq (vs++ws).toArray } })
  (hsz:vs.length + ws.length≤sizeLine):wpAny (model prog w) A (binaryOp .Add (.ref t) (.ref b)) Q E s:=by
 obtain ⟨⟨cls,dd,data,sl⟩,ho,hc,n,hd⟩:=id ht
 obtain ⟨⟨cls2,dd2,data2,sl2⟩,ho2,hc2,n2,hd2⟩:=id hb
 simp only at hc hd hc2 hd2
 subst hc hd hc2 hd2
 have e:vs.toArray++ws.toArray=(vs++ws).toArray:=by simp
 by_cases hw:ws=[]
 ·exact concat_meets ⟨_,ho,rfl⟩ ⟨_,ho2,rfl⟩ noFill_tuple_add seq_tuple_add PySem.F.slot_tuple_add PySem.F.entry_tuple_add (PySem.F.args_tuple_add_2 _ _)
   (tuple_addW1 t b vs.toArray ws.toArray n n2 dd dd2 sl sl2 (by simpa using hv) (by simp [hw])) ⟨ho,ho2,h1 hw⟩
 ·refine concat_meets ⟨_,ho,rfl⟩ ⟨_,ho2,rfl⟩ noFill_tuple_add seq_tuple_add PySem.F.slot_tuple_add PySem.F.entry_tuple_add (PySem.F.args_tuple_add_2 _ _)
   (tuple_addW2 t b vs.toArray ws.toArray n n2 dd dd2 sl sl2 (by simpa using hv) (by simpa using hw) (by rw [List.size_toArray,List.size_toArray];exact hsz)) ⟨ho,ho2,?_⟩
  rw [e]
  exact h2 hw
def sIx (n d:Nat):Option Int→Nat
 | none=>d
 | some v=>if v < 0 then (v + (n:Int)).toNat else min v.toNat n
theorem sIx_none (n d:Nat):sIx n d none=d:=rfl
theorem sIx_nat (n d k:Nat):sIx n d (some (k:Int))=min k n:=by
 show (if (k:Int) < 0 then ((k:Int) + (n:Int)).toNat else min (k:Int).toNat n)=min k n
 rw [if_neg (by omega),Int.toNat_natCast]
theorem sIx_le (n d:Nat) (hd:d≤n) (o:Option Int):sIx n d o≤n:=by
 cases o with
 | none=>exact hd
 | some v =>
  show (if v < 0 then (v + (n:Int)).toNat else min v.toNat n)≤n
  by_cases hv:v < 0
  ·rw [if_pos hv];omega
  ·rw [if_neg hv];exact Nat.min_le_right _ _
theorem qdQ (v:Int) (n d:Nat):(if v < 0 then max (v + (n:Int)) 0 else min v (n:Int))=((sIx n d (some v):Nat):Int):=by
 show (if v < 0 then max (v + (n:Int)) 0 else min v (n:Int))=(((if v < 0 then (v + (n:Int)).toNat else min v.toNat n):Nat):Int)
 by_cases hv:v < 0
 ·simp only [if_pos hv];omega
 ·simp only [if_neg hv];omega
theorem adjust_gen (lo hi:Option Int) (n:Nat):Builtin.Slice.sliceAdjust lo hi 1 (n:Int)=(((sIx n 0 lo:Nat):Int),((sIx n n hi:Nat):Int)):=by
 have h1:¬ ((1:Int) < 0):=by omega
 unfold Builtin.Slice.sliceAdjust
 simp only [h1,if_false]
 refine Prod.ext ?_ ?_
 ·cases lo with
  | none=>rfl
  | some v=>exact qdQ v n 0
 ·cases hi with
  | none=>rfl
  | some v=>exact qdQ v n n
theorem places_gen (i j:Nat):Builtin.Slice.slicePlaces (i:Int) (j:Int) 1=j - i:=by
 unfold Builtin.Slice.slicePlaces
 have h1:(1:Int) > 0:=by omega
 simp only [h1,if_true,Int.ediv_one]
 split<;>omega
theorem qbz {v:Value} {o:Option Int} {Q:Option Int→Shared→Prop} (p:IsPart v o) (h:Q o s):wpAny (model prog w) A (Builtin.Slice.slicePartIndex v) Q E s:=by
 cases p with
 | none=>exact slicePart_none h
 | int i t=>exact slicePart_int h
theorem sliceApplied_gen {sl:Addr} {vl vu:Value} {lo hi:Option Int} {n:Nat} {Q:Int×Int×Nat→Shared→Prop} (hs:s.heap.IsSliceOf sl vl vu .none) (pl:IsPart vl lo) (pu:IsPart vu hi)
  (h:Q (((sIx n 0 lo:Nat):Int),1,sIx n n hi - sIx n 0 lo) s):wpAny (model prog w) A (Builtin.Slice.sliceApplied (.ref sl) (pure (n:Int))) Q E s:=by
 obtain ⟨os,hos,hcs,hds⟩:=id hs
 unfold Builtin.Slice.sliceApplied Builtin.Slice.sliceFields
 refine wpAny_bind (wpAny_bind (wpAny_field hos hds (x:=vl) rfl (wpAny_bind (wpAny_field hos hds (x:=vu) rfl (wpAny_bind (wpAny_field hos hds (x:=.none) rfl (wpAny_pure ?_)))))))
 refine wpAny_bind (slicePart_none ?_)
 show wpAny _ _ (if ((1:Int)==0)=true then _ else _) _ _ s
 rw [if_neg (by decide)]
 refine wpAny_bind (qbz pl (wpAny_bind (qbz pu (wpAny_bind (wpAny_pure ?_)))))
 show wpAny _ _ (match Builtin.Slice.sliceAdjust lo hi 1 (n:Int) with | (lo,hi)=>pure (lo,(1:Int),Builtin.Slice.slicePlaces lo hi 1)) _ _ s
 rw [adjust_gen lo hi n]
 show wpAny _ _ (pure (((sIx n 0 lo:Nat):Int),(1:Int),Builtin.Slice.slicePlaces ((sIx n 0 lo:Nat):Int) ((sIx n n hi:Nat):Int) 1)) _ _ s
 rw [places_gen]
 exact wpAny_pure h
theorem pick_gen (xs:Array Value) (i k:Nat):((List.range k).filterMap fun (m:Nat)=>xs[((i:Int) + (m:Int) * 1).toNat]?).toArray=((xs.toList.drop i).take k).toArray:=by
 have e:(fun (m:Nat)=>xs[((i:Int) + (m:Int) * 1).toNat]?)=fun m=>xs[i + m]?:=by
  funext m
  have:((i:Int) + (m:Int) * 1).toNat=i + m:=by omega
  rw [this]
 rw [e]
 have:=pick_run xs i k
 rw [List.filterMap_map] at this
 have e2:((fun x=>xs[x]?) ∘ fun x=>i + x)=fun m=>xs[i + m]?:=rfl
 rw [e2] at this
 rw [this]
theorem getItem_tuple_cut {t sl:Addr} {items:Array Value} {vl vu:Value} {lo hi:Option Int} {Q:Value→Shared→Prop} (ht:IsTup s.heap t items) (hs:s.heap.IsSliceOf sl vl vu .none) (pl:IsPart vl lo) (pu:IsPart vu hi)
  (hw:¬ (sIx items.size 0 lo=0∧sIx items.size items.size hi=items.size))
  (h:Q (.ref s.heap.objs.size) { s with heap:=s.heap.push { cls:=.type "tuple",data:=.seq ((items.toList.drop (sIx items.size 0 lo)).take (sIx items.size items.size hi - sIx items.size 0 lo)).toArray } })
  (hsz:items.size≤sizeLine):wpAny (model prog w) A (getItem (.ref t) (.ref sl)) Q E s:=by
 have htake:sizeOk (.seq ((items.toList.drop (sIx items.size 0 lo)).take (sIx items.size items.size hi - sIx items.size 0 lo)).toArray):=by
  show ((items.toList.drop (sIx items.size 0 lo)).take (sIx items.size items.size hi - sIx items.size 0 lo)).toArray.size≤sizeLine
  rw [List.size_toArray,List.length_take,List.length_drop,Array.length_toList]
  omega
 have hj:sIx items.size items.size hi≤items.size:=sIx_le _ _ (yh _) hi
 obtain ⟨os,hos,hcs,hds⟩:=id hs
 have hTs:s.TypeIs (.ref sl) "slice":=⟨os,hos,hcs⟩
 unfold getItem
 try with_reducible refine wpAny_holding ?_
 first | refine wpAny_bind (wpAny_pure ?_) | skip
 refine wpAny_bind (wpAny_sequenceKey ht.typeIs (by decide) ?_)
 refine wpAny_bind (wpAny_callSpecial?_slot (name:=Str.ofString "__getitem__") ht.typeIs PyProof.Rows.slot_tuple_getitem
  (wpAny_call_entry PyProof.Rows.slot_tuple_getitem ht.typeIs entry_tuple_getitem ?_ (args_tuple_getitem _ _)))
 show wpAny _ _ (Builtin.Tuple.tupleItemsOf (.ref t)>>=_) _ _ s
 refine wpAny_bind (tupleItemsOf_ ht ?_)
 refine wpAny_bind (wpAny_typeOf hTs ?_)
 rw [if_pos (by decide)]
 refine wpAny_bind (sliceApplied_gen hs pl pu ?_)
 have hno:¬ ((((sIx items.size 0 lo:Nat):Int)==0&&(1:Int)==1&&(sIx items.size items.size hi - sIx items.size 0 lo)==items.size)=true):=by
  intro q
  rw [Bool.and_eq_true,Bool.and_eq_true] at q
  have q1:((sIx items.size 0 lo:Nat):Int)=0:=eq_of_beq q.1.1
  have q2:sIx items.size items.size hi - sIx items.size 0 lo=items.size:=eq_of_beq q.2
  exact hw ⟨by omega,by omega⟩
 show wpAny _ _ (if (((sIx items.size 0 lo:Nat):Int)==0&&(1:Int)==1&&(sIx items.size items.size hi - sIx items.size 0 lo)==items.size)=true then _ else _) _ _ s
 rw [if_neg hno,pick_gen]
 first
  | exact wpAny_bind (m:=Builtin.Tuple.tupleExact _) (wpAny_newObj_type (wpAny_pure ⟨_,rfl,wpAny_pure h⟩) htake)
  | exact wpAny_bind (m:=Builtin.Tuple.tupleExact _) (wpAny_newObj_type (wpAny_bind (wpAny_pure (wpAny_pure ⟨_,rfl,wpAny_pure h⟩))) htake)
  | exact wpAny_bind (wpAny_bind (m:=Builtin.Tuple.tupleExact _) (wpAny_newObj_type (wpAny_pure (wpAny_pure ⟨_,rfl,wpAny_pure h⟩)) htake))
  | exact wpAny_bind (wpAny_bind (m:=Builtin.Tuple.tupleExact _) (wpAny_newObj_type (wpAny_pure ⟨_,rfl,wpAny_pure h⟩) htake))
end
end HT
namespace L2
open PySem PySem.Spec PyProof.Rows
abbrev TO:=St→Hp→(Option Int→Hp→Prop)→Prop
def PO (X:Cx) (e:Option Expr) (t:TO):Prop:=
 ∀ (pins:List (Addr×Obj)) (s:Shared) (σ:St) (H:Hp) (Q:Option Int→Hp→Prop),Inv X pins σ H s→t σ H Q →
  wpAny (model X.prog X.w) X.A (evalPart e X.env) (fun u s'=>∃ o H',Inv X pins σ H' s'∧IsPart u o∧Q o H') X.xe s
def qdR:TO:=fun _ H Q=>Q none H
def qfR (t:TE):TO:=fun σ H Q=>t σ H fun x H1=>∃ i,x=.int i∧Q (some i) H1
section
variable {X:Cx} {e:Expr} {te:TE} {lo hi:Option Expr} {tl th:TO} {pos p2:Pos}
theorem zL:PO X none qdR:=by
 intro pins s σ H Q I h
 rw [evalPart_none]
 exact wpAny_pure ⟨none,H,I,.none,h⟩
theorem jH (h:PE X e te):PO X (some e) (qfR te):=by
 intro pins s σ H Q I hw
 rw [evalPart_some]
 refine thn (h pins s σ H _ I hw) fun u s1 ⟨x,H1,I1,r1,q1⟩=>?_
 obtain ⟨i,rfl,q⟩:=q1
 obtain ⟨t,rfl⟩:=r1
 exact ⟨some i,H1,I1,.int i t,q⟩
def SlR (X:Cx) (r:V→Option Int→Option Int→Hp→VK→Prop):Prop:=
 ∀ (pins:List (Addr×Obj)) (s:Shared) (σ:St) (H:Hp) (x:V) (v vl vu:Value) (lo hi:Option Int) (sl:Addr) (Q:VK),Inv X pins σ H s→RelV x v→s.heap.IsSliceOf sl vl vu .none→IsPart vl lo→IsPart vu hi→r x lo hi H Q →
  ∃ T id,typeLookup (.type T) "__getitem__"=pure (some (.builtin id))∧s.TypeIs v T∧wpAny (model X.prog X.w) X.A (getItem v (.ref sl)) (EP X pins σ Q) X.xe s
def tSl (r:V→Option Int→Option Int→Hp→VK→Prop) (te:TE) (tl th:TO):TE:=fun σ H Q=>te σ H fun x H1=>tl σ H1 fun l H2=>th σ H2 fun u H3=>r x l u H3 Q
theorem jS {r:V→Option Int→Option Int→Hp→VK→Prop} (hr:SlR X r) (he:PE X e te) (hl:PO X lo tl) (hu:PO X hi th):PE X (.Subscript e (.Slice lo hi none p2) pos) (tSl r te tl th):=by
 intro pins s σ H Q I h
 refine Subscript_ (thn (he pins s σ H _ I h) fun v s1 ⟨x,H1,I1,r1,q1⟩=>?_)
 refine wpAny_Slice (thn (hl pins s1 σ H1 _ I1 q1) fun vl s2 ⟨l,H2,I2,pl,q2⟩=>thn (hu pins s2 σ H2 _ I2 q2) fun vu s3 ⟨u,H3,I3,pu,q3⟩=>?_)
 rw [evalPart_none]
 refine wpAny_pure ?_
 have I4:Inv X pins σ H3 { s3 with heap:=s3.heap.push { cls:=.type "slice",data:=.fields #[vl,vu,.none] } }:=I3.kept (t':=s3.toks) fun b ob q=>Heap.get?_push_of_some _ q
 obtain ⟨T,id,hT,ht,hg⟩:=hr pins { s3 with heap:=s3.heap.push { cls:=.type "slice",data:=.fields #[vl,vu,.none] } } σ H3 x v vl vu l u s3.heap.objs.size Q I4 r1 (Heap.IsSliceOf.new ..) pl pu q3
 show wpAny (model X.prog X.w) X.A (subscriptTail e (.Slice lo hi none p2) v (.ref s3.heap.objs.size)) (EP X pins σ Q) X.xe { s3 with heap:=s3.heap.push { cls:=.type "slice",data:=.fields #[vl,vu,.none] } }
 exact tail_any (ops:=[.ref s3.heap.objs.size,v]) ht hT hg (by with_unfolding_all rfl)
def qcz (xs:List V) (lo hi:Option Int):List V:=(xs.drop (HT.sIx xs.length 0 lo)).take (HT.sIx xs.length xs.length hi - HT.sIx xs.length 0 lo)
theorem qbh (xs:List V) (lo hi:Option Int):(qcz xs lo hi).length≤xs.length:=by
 unfold qcz
 rw [List.length_take,List.length_drop]
 omega
def qgX (K:yg):V→Option Int→Option Int→Hp→VK→Prop:=fun x lo hi H Q=>∃ a xs,x=.ref a∧SqT K H a xs ∧
 ¬ (HT.sIx xs.length 0 lo=0∧HT.sIx xs.length xs.length hi=xs.length)∧∀ p,H p=none→Q (.ref p) (upd H p (.tup (qcz xs lo hi)))
theorem sl_tup:SlR X (qgX X.K):=by
 intro pins s σ H x v vl vu lo hi sl Q I rx hs pl pu h
 obtain ⟨a,xs,rfl,hx,hw,q⟩:=h
 cases rx
 obtain ⟨its,r,ht,hz⟩:=I.tuple hx
 have hlen:its.toArray.size=xs.length:=by rw [List.size_toArray];exact r.length.symm
 refine ⟨"tuple",_,PyProof.Rows.slot_tuple_getitem.lookup,ht.typeIs,?_⟩
 refine HT.getItem_tuple_cut ht hs pl pu (by rw [hlen];exact hw) ?_ (by rw [hlen];exact hz)
 rw [hlen]
 refine ⟨.ref s.heap.objs.size,_,I.laid (t':=s.toks) (o:=.tup (qcz xs lo hi)) (fun b ob q=>Heap.get?_push_of_some _ q) (yh _) ?_,rfl,q _ (I.hok.fresh (yh _))⟩
 exact ⟨yi (qbh xs lo hi) hz,_,(r.drop (HT.sIx xs.length 0 lo)).take (HT.sIx xs.length xs.length hi - HT.sIx xs.length 0 lo),IsTup.new _ _⟩
def qfS (K:yg):R2:=fun x y H Q=>∃ a b xs ys,x=.ref a∧y=.ref b∧SqT K H a xs∧SqT K H b ys∧xs≠[]∧xs.length + ys.length≤sizeLine ∧
 (ys=[]→Q (.ref a) H)∧(ys≠[]→∀ p,H p=none→Q (.ref p) (upd H p (.tup (xs++ys))))
theorem Vals.nil_iff {xs:List V} {us:List Value} (r:Vals xs us):us=[]↔xs=[]:=by
 cases r with
 | nil=>simp
 | cons _ _=>simp
theorem op_catT:OpR X (binaryOp .Add) (qfS X.K):=by
 intro pins s σ H x y v u Q I rx ry h
 obtain ⟨a,b,xs,ys,rfl,rfl,ha,hb,hx,hz,q1,q2⟩:=h
 cases rx
 cases ry
 obtain ⟨its,r1,p1,_⟩:=I.tuple ha
 obtain ⟨its2,r2,p2,_⟩:=I.tuple hb
 refine HT.cat_tup p1 p2 (fun z=>hx (r1.nil_iff.mp z)) (fun z=>⟨.ref a,H,I,rfl,q1 (r2.nil_iff.mp z)⟩) (fun z=>?_) (by rw [← r1.length,← r2.length];exact hz)
 refine ⟨.ref s.heap.objs.size,_,I.laid (t':=s.toks) (o:=.tup (xs++ys)) (fun b ob q=>Heap.get?_push_of_some _ q) (yh _) ?_,rfl,q2 (fun w=>z (r2.nil_iff.mpr w)) _ (I.hok.fresh (yh _))⟩
 exact ⟨by rw [List.length_append];exact hz,_,r1.append r2,IsTup.new _ _⟩
end
def ixN (n:Nat) (i:Int):Option Nat:=if 0≤i then (if i < n then some i.toNat else none) else if -(n:Int)≤i then some (i + n).toNat else none
def atI {α:Type} (xs:List α) (i:Int):Option α:=(ixN xs.length i).bind fun j=>xs[j]?
theorem qdS {n:Nat} {i:Int} {j:Nat} (h:ixN n i=some j):seqIndex? i n=some j∧j < n∧-(n:Int)≤i∧i < n:=by
 unfold ixN at h
 by_cases h0:0≤i
 ·rw [if_pos h0] at h
  by_cases h1:i < n
  ·rw [if_pos h1] at h
   have e:i.toNat=j:=ym h
   exact ⟨by rw [seqIndex_of h0 h1,e],by omega,by omega,h1⟩
  ·rw [if_neg h1] at h;cases h
 ·rw [if_neg h0] at h
  by_cases h1:-(n:Int)≤i
  ·rw [if_pos h1] at h
   have e:(i + n).toNat=j:=ym h
   exact ⟨by rw [seqIndex_neg (by omega) h1,e],by omega,h1,by omega⟩
  ·rw [if_neg h1] at h;cases h
theorem qcF {α:Type} {xs:List α} {i:Int} {v:α} (h:atI xs i=some v):∃ j,seqIndex? i xs.length=some j∧xs[j]?=some v∧j < xs.length∧-(xs.length:Int)≤i∧i < xs.length:=by
 unfold atI at h
 cases e:ixN xs.length i with
 | none=>rw [e] at h;cases h
 | some j =>
  rw [e] at h
  obtain ⟨h1,h2,h3,h4⟩:=qdS e
  exact ⟨j,h1,h,h2,h3,h4⟩
theorem qt {α:Type} {xs:List α} {j:Nat} {v:α} (h:xs[j]?=some v):atI xs (j:Int)=some v:=by
 have hj:j < xs.length:=(yc.mp h).1
 have e:ixN xs.length (j:Int)=some j:=by
  unfold ixN
  rw [if_pos (by omega),if_pos (by omega)];simp
 unfold atI;rw [e];exact h
def PlainIx (b:Expr):Prop:=∀ o i,subscripted b false o i=operate [o,i] (getItem o i)
def IxR (X:Cx) (r:R2):Prop:=
 ∀ (value slice:Expr) (pins:List (Addr×Obj)) (s:Shared) (σ:St) (H:Hp) (x y:V) (v u:Value) (Q:VK),Inv X pins σ H s→RelV x v→RelV y u→r x y H Q →
  subscripted slice false v u=operate [v,u] (getItem v u)→wpAny (model X.prog X.w) X.A (subscriptTail value slice v u) (EP X pins σ Q) X.xe s
def MtR (X:Cx) (id:String) (r:V→List V→Hp→VK→Prop):Prop:=
 ∀ (pins:List (Addr×Obj)) (s:Shared) (σ:St) (H:Hp) (x:V) (xs:List V) (v:Value) (us:List Value) (Q:VK),Inv X pins σ H s→RelV x v→Vals xs us→r x xs H Q →
  wpAny (model X.prog X.w) X.A (call (.builtin id) (v::us)) (EP X pins σ Q) X.xe s
section
variable {X:Cx} {a b:Expr} {ta tb:TE} {pos:Pos}
theorem IxR.or {r r':R2} (h:IxR X r) (h':IxR X r'):IxR X (fun x y H Q=>r x y H Q∨r' x y H Q):=by
 intro value slice pins s σ H x y v u Q I rx ry q hs
 rcases q with q | q
 ·exact h value slice pins s σ H x y v u Q I rx ry q hs
 ·exact h' value slice pins s σ H x y v u Q I rx ry q hs
theorem qx {r:R2} (hr:IxR X r) (ha:PE X a ta) (hb:PE X b tb) (hs:PlainIx b):PE X (.Subscript a b pos) (tOp r ta tb):=by
 intro pins s σ H Q I h
 exact Subscript_ (qgx ha hb I h fun v u s2 x y H2 I2 rx ry q=>hr a b pins s2 σ H2 x y v u Q I2 rx ry q (hs _ _))
def qgY (K:yg):R2:=fun x y H Q=>∃ p xs i v,x=.ref p∧y=.int i∧SqL K H p xs∧atI xs i=some v∧Q v H
def qgZ (K:yg):R2:=fun x y H Q=>∃ p xs i v,x=.ref p∧y=.int i∧SqT K H p xs∧atI xs i=some v∧Q v H
def qg0:R2:=fun x y H Q=>∃ z i c,x=.str z∧y=.int i∧z.length≤sizeLine∧atI z.cps.toList i=some c∧Q (.str ⟨#[c]⟩) H
theorem ix_list:IxR X (qgY X.K):=by
 intro value slice pins s σ H x y v u Q I rx ry h hs
 obtain ⟨p,xs,i,z,rfl,rfl,hq,he,q⟩:=h
 cases rx
 obtain ⟨t,rfl⟩:=ry
 obtain ⟨its,r,pl,hz⟩:=I.list hq
 obtain ⟨j,h1,h2,h3,h4,h5⟩:=qcF he
 obtain ⟨w,ew,rw'⟩:=r.get h2
 have hl:=r.length
 have hn:=qby
 have fin:EP X pins σ Q w s:=⟨z,H,I,rw',q⟩
 by_cases h0:0≤i
 ·have hj:i.toNat=j:=by
   rw [seqIndex_of h0 h5] at h1
   exact ym h1
  exact item_listR pl.isList h0 (by omega) (by rw [hj];simpa using ew) fin hs
 ·have hj:(i + (its.toArray.size:Int)).toNat=j:=by
   rw [seqIndex_neg (by omega) h4] at h1
   rw [List.size_toArray,← hl]
   exact ym h1
  exact subscriptTail_builtinR (x:=w) pl.isList.typeIs slot_list_getitem.lookup
   (wpAny_getItem_list_neg (Q:=fun r s'=>r=w∧EP X pins σ Q r s') pl.isList (by omega) (by rw [List.size_toArray]<;>omega) (by omega) (by rw [hj];simpa using ew) ⟨rfl,fin⟩) hs
theorem ix_tup:IxR X (qgZ X.K):=by
 intro value slice pins s σ H x y v u Q I rx ry h hs
 obtain ⟨p,xs,i,z,rfl,rfl,hq,he,q⟩:=h
 cases rx
 obtain ⟨t,rfl⟩:=ry
 obtain ⟨its,r,pl,hz⟩:=I.tuple hq
 obtain ⟨j,h1,h2,h3,h4,h5⟩:=qcF he
 obtain ⟨w,ew,rw'⟩:=r.get h2
 have hl:=r.length
 have hn:=qby
 have fin:EP X pins σ Q w s:=⟨z,H,I,rw',q⟩
 exact subscriptTail_builtinR (x:=w) pl.typeIs slot_tuple_getitem.lookup
  (getItem_tuple (j:=j) (Q:=fun r s'=>r=w∧EP X pins σ Q r s') pl (by omega) (by omega) (by rw [List.size_toArray,← hl];exact h1) (by simpa using ew) ⟨rfl,fin⟩) hs
theorem ix_str:IxR X qg0:=by
 intro value slice pins s σ H x y v u Q I rx ry h hs
 obtain ⟨z,i,c,rfl,rfl,hz,he,q⟩:=h
 obtain ⟨t,rfl⟩:=rx
 obtain ⟨t',rfl⟩:=ry
 obtain ⟨j,h1,h2,h3,h4,h5⟩:=qcF he
 have hl:z.cps.toList.length=z.length:=by simp [Str.length]
 rw [hl] at h1 h4 h5
 have hn:=qby
 exact tail_any (typeIs_str s z t) slot_str_getitem.lookup (getItem_str (c:=c) (by
  have e1:decide (i < -(2 ^ 63:Int))=false:=yl (by omega)
  have e2:decide (i ≥ 2 ^ 63)=false:=yl (by omega)
  rw [e1,e2,Bool.or_false]) (by rw [h1];simpa using h2) ⟨.str ⟨#[c]⟩,H,I.tok _,⟨_,rfl⟩,q⟩) hs
def rIx (K:yg):R2:=fun x y H Q=>qgY K x y H Q∨qgZ K x y H Q∨qg0 x y H Q
theorem ix_seq:IxR X (rIx X.K):=ix_list.or (ix_tup.or ix_str)
theorem mapSeq_set (its:List Value) (n j:Nat) (u:Value):Obj.mapSeq (·.setIfInBounds j u) { cls:=.type "list",data:=.seq its.toArray n }={ cls:=.type "list",data:=.seq (its.set j u).toArray n }:=by
 simp [Obj.mapSeq]
theorem Inv.lst {pins:List (Addr×Obj)} {σ:St} {H:Hp} {s:Shared} {p:Addr} {xs:List V} (I:Inv X pins σ H s) (h:H p=some (.lst xs)) :
  ∃ (its:List Value) (n:Nat),Vals xs its∧s.heap.get? p=some { cls:=.type "list",data:=.seq its.toArray n }∧xs.length≤sizeLine:=by
 obtain ⟨z,its,n,r,e⟩:=I.hok p _ h
 exact ⟨its,n,r,e,z⟩
theorem Inv.lstUpd {pins:List (Addr×Obj)} {σ:St} {H:Hp} {s:Shared} {p:Addr} {xs ys:List V} {its its':List Value} {n n':Nat} {f:Obj→Obj} (I:Inv X pins σ H s) (h:H p=some (.lst xs))
  (ho:s.heap.get? p=some { cls:=.type "list",data:=.seq its.toArray n }) (hf:f { cls:=.type "list",data:=.seq its.toArray n }={ cls:=.type "list",data:=.seq its'.toArray n' }) (r:Vals ys its') (hz:ys.length≤sizeLine) (t:Nat) :
  Inv X pins σ (upd H p (.lst ys)) { s with heap:=s.heap.update p f,toks:=t }:=by
 have e:(s.heap.update p f).get? p=some { cls:=.type "list",data:=.seq its'.toArray n' }:=by
  rw [Heap.get?_update_self f ho (by rw [hf]<;>rfl),hf]
 refine I.write (x:=p) (e:=p) (by rw [h];trivial) (.inl rfl) (fun b u hb q=>(Heap.get?_update_other _ _ (Ne.symm hb)).trans q) ⟨_,e⟩ ?_
 exact ⟨hz,its',n',r,e⟩
def qfq:V→V→V→Hp→(Hp→Prop)→Prop:=fun o i v H Q=>∃ p xs k j,o=.ref p∧i=.int k∧H p=some (.lst xs)∧ixN xs.length k=some j∧Q (upd H p (.lst (xs.set j v)))
theorem set_list:qgw X qfq:=by
 intro pins s σ H o i v ov iv u Q I ro ri rv h
 obtain ⟨p,xs,k,j,rfl,rfl,hp,hj,q⟩:=h
 cases ro
 obtain ⟨t,rfl⟩:=ri
 obtain ⟨its,n,r,ho,hz⟩:=I.lst hp
 obtain ⟨h1,h2,h3,h4⟩:=qdS hj
 have hl:=r.length
 have hn:=qby
 have I':Inv X pins σ (upd H p (.lst (xs.set j v))) { s with heap:=s.heap.update p (Obj.mapSeq (·.setIfInBounds j u)) }:=
  I.lstUpd hp ho (mapSeq_set its n j u) (r.set rv j) (by rw [List.length_set];exact hz) s.toks
 by_cases h0:0≤k
 ·have hk:k.toNat=j:=by
   rw [seqIndex_of h0 h4] at h1
   exact ym h1
  exact PySem.W.ki_setAt ho h0 (by omega) (by rw [List.size_toArray,← hl];exact h4) (by rw [hk];exact ⟨_,I',q⟩)
 ·have hk:(k + (its.toArray.size:Int)).toNat=j:=by
   rw [seqIndex_neg (by omega) h3] at h1
   rw [List.size_toArray,← hl]
   exact ym h1
  exact PySem.W.ki_setBack ho (by omega) (by rw [List.size_toArray,← hl];exact h3) (by omega) (by rw [hk];exact ⟨_,I',q⟩)
theorem slice_bounds (lo hi:Option Int) (n:Nat):(sliceBounds lo hi none n).1=((HT.sIx n 0 lo:Nat):Int)∧(sliceBounds lo hi none n).2.1=((HT.sIx n n hi:Nat):Int)∧(sliceBounds lo hi none n).2.2=1:=by
 refine ⟨?_,?_,rfl⟩
 ·cases lo with
  | none=>simp [sliceBounds,HT.sIx]
  | some i =>
   simp only [sliceBounds,HT.sIx,Option.getD_none,show (1:Int) > 0 by decide,if_true]
   by_cases h:i < 0
   ·simp only [h,if_true]<;>omega
   ·simp only [h,if_false]<;>omega
 ·cases hi with
  | none=>simp [sliceBounds,HT.sIx]
  | some i =>
   simp only [sliceBounds,HT.sIx,Option.getD_none,show (1:Int) > 0 by decide,if_true]
   by_cases h:i < 0
   ·simp only [h,if_true]<;>omega
   ·simp only [h,if_false]<;>omega
theorem slicePick_cut (its:List Value) (lo hi:Option Int):slicePick its.toArray lo hi none=((its.drop (HT.sIx its.length 0 lo)).take (HT.sIx its.length its.length hi - HT.sIx its.length 0 lo)).toArray:=by
 obtain ⟨h1,h2,h3⟩:=slice_bounds lo hi its.toArray.size
 unfold slicePick
 rw [h1,h2,h3]
 simp only [sliceRange_one,pick_run,List.size_toArray]<;>rfl
def qg1 (K:yg):V→Option Int→Option Int→Hp→VK→Prop:=fun x lo hi H Q=>∃ a xs,x=.ref a∧SqL K H a xs∧∀ p,H p=none→Q (.ref p) (upd H p (.lst (qcz xs lo hi)))
theorem sl_list:SlR X (qg1 X.K):=by
 intro pins s σ H x v vl vu lo hi sl Q I rx hs pl pu h
 obtain ⟨a,xs,rfl,hx,q⟩:=h
 cases rx
 obtain ⟨its,r,ht,hz⟩:=I.list hx
 have hlen:=r.length
 refine ⟨"list",_,slot_list_getitem.lookup,ht.isList.typeIs,?_⟩
 refine wpAny_getItem_list_slice ht.isList hs pl pu .none (by simp) ?_ (by rw [List.size_toArray]<;>omega)
 rw [slicePick_cut,← hlen]
 refine ⟨.ref s.heap.objs.size,_,I.laid (t':=s.toks) (o:=.lst (qcz xs lo hi)) (fun b ob q=>Heap.get?_push_of_some _ q) (yh _) ?_,rfl,q _ (I.hok.fresh (yh _))⟩
 exact ⟨yi (qbh xs lo hi) hz,_,0,(r.drop (HT.sIx xs.length 0 lo)).take (HT.sIx xs.length xs.length hi - HT.sIx xs.length 0 lo),Heap.get?_push_size _ rfl⟩
def zZ:V→Bool
 | .non=>true
 | .bl _=>true
 | .int _=>true
 | .str _=>true
 | _=>false
def eqV:V→V→Bool
 | .non,.non=>true
 | .bl a,.bl b=>a==b
 | .bl a,.int b=>(if a then 1 else 0)==b
 | .int a,.bl b=>a==(if b then 1 else 0)
 | .int a,.int b=>a==b
 | .str a,.str b=>a==b
 | _,_=>false
theorem qdT {A:Around} {s:Shared} {y x:V} {u v:Value} (ry:RelV y u) (rx:RelV x v) (fy:zZ y=true) (fx:zZ x=true):SeqAt.EqAt A s u v (eqV y x):=by
 cases y with
 | non =>
  cases ry
  cases x with
  | non=>cases rx;exact SeqAt.EqAt.same _
  | bl b=>cases rx;exact SeqAt.EqAt.none_bool b
  | int b=>obtain ⟨t,rfl⟩:=rx;exact SeqAt.EqAt.none_int b t
  | str b=>obtain ⟨t,rfl⟩:=rx;exact SeqAt.EqAt.none_str b t
  | _=>exact absurd (show false=true from fx) Bool.false_ne_true
 | bl a =>
  cases ry
  cases x with
  | non=>cases rx;exact SeqAt.EqAt.bool_none a
  | bl b=>cases rx;exact SeqAt.EqAt.bool_bool a b
  | int b=>obtain ⟨t,rfl⟩:=rx;exact SeqAt.EqAt.bool_int a b t
  | str b=>obtain ⟨t,rfl⟩:=rx;exact SeqAt.EqAt.bool_str a b t
  | _=>exact absurd (show false=true from fx) Bool.false_ne_true
 | int a =>
  obtain ⟨t',rfl⟩:=ry
  cases x with
  | non=>cases rx;exact SeqAt.EqAt.int_none a t'
  | bl b=>cases rx;exact SeqAt.EqAt.int_bool a t' b
  | int b=>obtain ⟨t,rfl⟩:=rx;exact SeqAt.EqAt.int_int a t' b t
  | str b=>obtain ⟨t,rfl⟩:=rx;exact SeqAt.EqAt.int_str a t' b t
  | _=>exact absurd (show false=true from fx) Bool.false_ne_true
 | str a =>
  obtain ⟨t',rfl⟩:=ry
  cases x with
  | non=>cases rx;exact SeqAt.EqAt.str_none a t'
  | bl b=>cases rx;exact SeqAt.EqAt.str_bool a t' b
  | int b=>obtain ⟨t,rfl⟩:=rx;exact SeqAt.EqAt.str_int a t' b t
  | str b=>obtain ⟨t,rfl⟩:=rx;exact SeqAt.EqAt.str_str a t' b t
  | _=>exact absurd (show false=true from fx) Bool.false_ne_true
 | _=>exact absurd (show false=true from fy) Bool.false_ne_true
def eqU (x:V) (u:Value):Bool:=match u with
 | .none=>eqV .non x
 | .bool b=>eqV (.bl b) x
 | .int i _=>eqV (.int i) x
 | .str z _=>eqV (.str z) x
 | _=>false
theorem qeN {x y:V} {u:Value} (r:RelV y u) (f:zZ y=true):eqU x u=eqV y x:=by
 cases y with
 | non=>cases r;rfl
 | bl b=>cases r;rfl
 | int i=>obtain ⟨t,rfl⟩:=r;rfl
 | str z=>obtain ⟨t,rfl⟩:=r;rfl
 | _=>exact absurd (show false=true from f) Bool.false_ne_true
theorem qbi {x:V}:∀ {xs:List V} {us:List Value},Vals xs us→xs.all zZ=true→us.any (eqU x)=xs.any fun y=>eqV y x
 | _,_,.nil,_=>rfl
 | y::xs,u::us,.cons r t,f=>by
  rw [List.all_cons,Bool.and_eq_true] at f
  rw [List.any_cons,List.any_cons,qeN r f.1,qbi t f.2]
theorem qaE {A:Around} {s:Shared} {x:V} {v:Value} (rx:RelV x v) (fx:zZ x=true):∀ {xs:List V} {us:List Value},Vals xs us→xs.all zZ=true→∀ u∈us,SeqAt.EqAt A s u v (eqU x u)
 | _,_,.nil,_=>fun u hu=>by cases hu
 | y::xs,u::us,.cons r t,f=>fun u' hu=>by
  rw [List.all_cons,Bool.and_eq_true] at f
  rcases List.mem_cons.mp hu with rfl | hu
  ·rw [qeN r f.1];exact qdT r rx f.1 fx
  ·exact qaE rx fx t f.2 u' hu
def inV (x:V) (xs:List V):Bool:=xs.any fun y=>eqV y x
def rIn (K:yg) (neg:Bool):R2:=fun x y H Q=>∃ p xs,y=.ref p∧(SqL K H p xs∨SqT K H p xs)∧zZ x=true∧xs.all zZ=true∧Q (.bl (if neg then !inV x xs else inV x xs)) H
theorem op_in_seq:OpR X (compareOp .In) (rIn X.K false):=by
 intro pins s σ H x y v u Q I rx ry h
 obtain ⟨p,xs,rfl,hq,fx,fs,q⟩:=h
 cases ry
 rcases hq with hq | hq
 ·obtain ⟨its,r,pl,hz⟩:=I.list hq
  refine SeqAt.in_listAt (eqU x) pl.isList (fun w hw=>qaE rx fx r fs w (by simpa using hw)) ⟨.bl _,H,I,rfl,?_⟩
  rw [show its.toArray.any (eqU x)=its.any (eqU x) by simp,qbi r fs]
  exact q
 ·obtain ⟨its,r,pl,hz⟩:=I.tuple hq
  refine SeqAt.in_tupleAt (eqU x) pl (fun w hw=>qaE rx fx r fs w (by simpa using hw)) ⟨.bl _,H,I,rfl,?_⟩
  rw [show its.toArray.any (eqU x)=its.any (eqU x) by simp,qbi r fs]
  exact q
theorem op_notIn_seq:OpR X (compareOp .NotIn) (rIn X.K true):=by
 intro pins s σ H x y v u Q I rx ry h
 obtain ⟨p,xs,rfl,hq,fx,fs,q⟩:=h
 cases ry
 rcases hq with hq | hq
 ·obtain ⟨its,r,pl,hz⟩:=I.list hq
  refine SeqAt.notIn_listAt (eqU x) pl.isList (fun w hw=>qaE rx fx r fs w (by simpa using hw)) ⟨.bl _,H,I,rfl,?_⟩
  rw [show its.toArray.any (eqU x)=its.any (eqU x) by simp,qbi r fs]
  exact q
 ·obtain ⟨its,r,pl,hz⟩:=I.tuple hq
  refine SeqAt.notIn_tupleAt (eqU x) pl (fun w hw=>qaE rx fx r fs w (by simpa using hw)) ⟨.bl _,H,I,rfl,?_⟩
  rw [show its.toArray.any (eqU x)=its.any (eqU x) by simp,qbi r fs]
  exact q
theorem call_len_seq:zY X (.builtin "len") (fun xs H Q=>∃ p ys,xs=[.ref p]∧(SqL X.K H p ys∨SqT X.K H p ys)∧Q (.int ys.length) H):=by
 intro pins s σ H xs us Q I r h
 obtain ⟨p,ys,rfl,hq,q⟩:=h
 obtain ⟨u,rfl,rx⟩:=qbf r
 cases rx
 have hn:=qby
 rcases hq with hq | hq
 ·obtain ⟨its,r',pl,hz⟩:=I.list hq
  have hlen:=r'.length
  exact Calls.call_len_list pl.isList (by simp only [List.size_toArray]<;>omega) ⟨.int ys.length,H,I.tok _,⟨s.toks + 1,by rw [List.size_toArray,hlen]⟩,q⟩
 ·obtain ⟨its,r',pl,hz⟩:=I.tuple hq
  have hlen:=r'.length
  exact len_tuple pl (by simp only [List.size_toArray]<;>omega) ⟨.int ys.length,H,I.tok _,⟨s.toks + 1,by rw [List.size_toArray,hlen]⟩,q⟩
theorem call_len_str:zY X (.builtin "len") (fun xs H Q=>∃ z,xs=[.str z]∧z.length≤sizeLine∧Q (.int z.length) H):=by
 intro pins s σ H xs us Q I r h
 obtain ⟨z,rfl,hz,q⟩:=h
 obtain ⟨u,rfl,t,rfl⟩:=qbf r
 have hn:=qby
 exact len_str (by omega) ⟨.int z.length,H,I.tok _,⟨_,rfl⟩,q⟩
theorem call_list_of:zY X (.type "list") (fun xs H Q=>∃ p ys,xs=[.ref p]∧(SqL X.K H p ys∨SqT X.K H p ys)∧∀ l,H l=none→Q (.ref l) (upd H l (.lst ys))):=by
 intro pins s σ H xs us Q I r h
 obtain ⟨p,ys,rfl,hq,q⟩:=h
 obtain ⟨u,rfl,rx⟩:=qbf r
 cases rx
 have fin:∀ (its:List Value),Vals ys its→ys.length≤sizeLine→∀ (h':Heap) (c':Nat),(∀ b o',s.heap.get? b=some o'→h'.get? b=some o') →
   h'.get? s.heap.objs.size=some { cls:=.type "list",dict:=none,data:=.seq its.toArray c',slots:=#[] }→EP X pins σ Q (.ref s.heap.objs.size) { s with heap:=h' }:=fun its r' hz h' c' kp e =>
  ⟨.ref s.heap.objs.size,_,I.laid (t':=s.toks) kp (yh _) (show ObjOk X.prog X.w _ h' _ (.lst ys) from ⟨hz,its,c',r',e⟩),rfl,q _ (I.hok.fresh (yh _))⟩
 rcases hq with hq | hq
 ·obtain ⟨its,r',pl,hz⟩:=I.list hq
  have hlen:=r'.length
  obtain ⟨o,ho,hc,n,hd⟩:=pl.isList
  exact call_list_seq p (.inl rfl) ho hc hd (fun h' c' kp e=>fin its r' hz h' c' kp e) (by simp only [List.size_toArray]<;>omega)
 ·obtain ⟨its,r',pl,hz⟩:=I.tuple hq
  have hlen:=r'.length
  obtain ⟨o,ho,hc,n,hd⟩:=pl
  exact call_list_seq p (.inr rfl) ho hc hd (fun h' c' kp e=>fin its r' hz h' c' kp e) (by simp only [List.size_toArray]<;>omega)
theorem call_tuple_of:zY X (.type "tuple") (fun xs H Q=>∃ p ys,xs=[.ref p]∧((SqL X.K H p ys∧∀ l,H l=none→Q (.ref l) (upd H l (.tup ys)))∨(SqT X.K H p ys∧Q (.ref p) H))):=by
 intro pins s σ H xs us Q I r h
 obtain ⟨p,ys,rfl,h⟩:=h
 obtain ⟨u,rfl,rx⟩:=qbf r
 cases rx
 rcases h with ⟨hq,q⟩ | ⟨hq,q⟩
 ·obtain ⟨its,r',pl,hz⟩:=I.list hq
  have hlen:=r'.length
  refine call_tuple_list pl.isList (fun h' kp=>?_) (by simp only [List.size_toArray]<;>omega)
  have I1:Inv X pins σ H { s with heap:=h' }:=I.kept (t':=s.toks) kp
  have I2:Inv X pins σ (upd H h'.objs.size (.tup ys)) { s with heap:=h'.push { cls:=.type "tuple",data:=.seq its.toArray } }:=
   I1.laid (t':=s.toks) (fun b o e=>Heap.get?_push_of_some _ e) (yh _) (show ObjOk X.prog X.w _ _ _ (.tup ys) from ⟨hz,its,r',IsTup.new _ _⟩)
  exact ⟨.ref h'.objs.size,_,I2,rfl,q _ (I1.hok.fresh (yh _))⟩
 ·obtain ⟨its,r',pl,hz⟩:=I.tuple hq
  exact call_tuple_same pl ⟨.ref p,H,I,rfl,q⟩
def tyV (K:yg) (T:String) (x:V) (H:Hp):Prop:=match x with
 | .str _=>T="str"
 | .int _=>T="int"
 | .ref p=>(T="list"∧∃ xs,SqL K H p xs)∨(T="tuple"∧∃ o,K.lookup p=some o∧o.cls=.type "tuple"∧o.dict=none) ∨
   (T="dict"∧((∃ kvs,H p=some (.dK kvs))∨∃ kvs,H p=some (.dT kvs)))∨(T="set"∧∃ S n,H p=some (.set S n))
 | _=>False
theorem qeO {pins:List (Addr×Obj)} {σ:St} {H:Hp} {s:Shared} {T:String} {x:V} {v:Value} (I:Inv X pins σ H s) (r:RelV x v) (ty:tyV X.K T x H) :
  s.TypeIs v T∧∀ a,v=.ref a→∃ ob,s.heap.get? a=some ob∧ob.dict=none:=by
 cases x with
 | str z =>
  obtain ⟨t,rfl⟩:=r
  cases (show T="str" from ty)
  exact ⟨typeIs_str s z t,fun _ e=>nomatch e⟩
 | int i =>
  obtain ⟨t,rfl⟩:=r
  cases (show T="int" from ty)
  exact ⟨typeIs_int s i t,fun _ e=>nomatch e⟩
 | ref p =>
  cases r
  rcases ty with ⟨rfl,xs,hq⟩ | ⟨rfl,o,hk,hc,hd⟩ | ⟨rfl,hk⟩ | ⟨rfl,S,n,hk⟩
  ·obtain ⟨its,_,pl,_⟩:=I.list hq
   refine ⟨pl.isList.typeIs,fun a e=>?_⟩
   cases e
   obtain ⟨o,n,e,c,hd,_⟩:=pl
   exact ⟨o,e,hd⟩
  ·refine ⟨⟨o,I.kIn p o hk,hc⟩,fun a e=>?_⟩
   cases e
   exact ⟨o,I.kIn _ o hk,hd⟩
  ·have z:∃ o,s.heap.get? p=some o∧o.ExactDict:=by
    rcases hk with ⟨kvs,hk⟩ | ⟨kvs,hk⟩
    ·obtain ⟨_,_,_,_,o,_,_,e,ex,_⟩:=I.hok p _ hk
     exact ⟨o,e,ex⟩
    ·obtain ⟨_,_,_,_,o,_,_,e,ex,_⟩:=I.hok p _ hk
     exact ⟨o,e,ex⟩
   obtain ⟨o,e,ex⟩:=z
   refine ⟨⟨o,e,ex.1⟩,fun a e2=>?_⟩
   cases e2
   exact ⟨o,e,ex.2.1⟩
  ·obtain ⟨o,_,_,_,e,ex,_⟩:=I.hok p _ hk
   refine ⟨⟨o,e,ex.1⟩,fun a e2=>?_⟩
   cases e2
   exact ⟨o,e,ex.2.1⟩
 | _=>exact False.elim ty
def qgz (K:yg) (T:String) (r:V→List V→Hp→VK→Prop) (to:TE):TE:=fun σ H Q=>to σ H fun x H1=>tyV K T x H1∧r x [] H1 Q
def tBM (K:yg) (T:String) (r:V→List V→Hp→VK→Prop) (to:TE) (t:TA):TE:=fun σ H Q=>to σ H fun x H1=>tyV K T x H1∧t σ H1 fun xs H2=>r x xs H2 Q
variable {o e:Expr} {es:List Expr} {to:TE} {t:TA} {name:Str} {apos cpos:Pos} {T id:String} {r:V→List V→Hp→VK→Prop}
theorem pe_bm0 (pa:PlainAttrs T) (slot:Slot T name id) (hty:typeOf (.builtin id)=pure (.type "method_descriptor")) (hm:MtR X id r) (ho:PE X o to)
  (hbase:attributeBase o name X.env (eval o X.env)=eval o X.env:=by rfl) (hline:(apos.endLine==cpos.line)=true:=by rfl):PE X (.Call (.Attribute o name apos) [] [] cpos) (qgz X.K T r to):=by
 intro pins s σ H Q I h
 refine wpAny_Call_method0_late hbase hline (thn (ho pins s σ H _ I h) fun v s1 ⟨x,H1,I1,r1,ty,q1⟩=>?_)
 obtain ⟨h1,h2⟩:=qeO I1 r1 ty
 exact ⟨T,id,pa,slot,hty,h1,h2,Calls.callWith_builtin rfl (PySem.evalArgs_none (hm pins s1 σ H1 x [] v [] Q I1 r1 .nil q1))⟩
theorem pe_bm (pa:PlainAttrs T) (slot:Slot T name id) (hty:typeOf (.builtin id)=pure (.type "method_descriptor")) (hm:MtR X id r) (ho:PE X o to) (ha:PA X (e::es) t)
  (hbase:attributeBase o name X.env (eval o X.env)=eval o X.env:=by rfl)
  (hfew:((backTo cpos (starEach (e::es) X.env)).all (fun x=>!x.1)&&(backToKw cpos (keywordEach [] X.env)).all (fun x=>x.1.isSome)
   && decide ((e::es).length + ([]:List Keyword).length + (if ([]:List Keyword).isEmpty then 0 else 1) < 30))=true:=by rfl)
  (hline:(apos.endLine==cpos.line)=true:=by rfl) (hs:starEach (e::es) X.env=(false,eval e X.env)::starEach es X.env:=by rfl) (hplain:(backTo cpos (starEach es X.env)).any (·.1)=false:=by rfl) :
  PE X (.Call (.Attribute o name apos) (e::es) [] cpos) (tBM X.K T r to t):=by
 intro pins s σ H Q I h
 refine wpAny_Call_method_late hbase hfew hline rfl (thn (ho pins s σ H _ I h) fun v s1 ⟨x,H1,I1,r1,ty,q1⟩=>?_)
 obtain ⟨h1,h2⟩:=qeO I1 r1 ty
 refine ⟨T,id,pa,slot,hty,h1,h2,?_⟩
 have hA:=ha cpos pins s1 σ H1 _ I1 q1
 rw [hs] at hA ⊢
 refine Calls.callWith_builtin (by show (false||(backTo cpos (starEach es X.env)).any (·.1))=false;rw [hplain]<;>rfl) (Calls.evalArgs_plain ?_)
 exact thn hA fun us s2 ⟨vs,H2,I2,r2,q2⟩=>hm pins s2 σ H2 x vs v us Q I2 r1 r2 q2
end
def MtM (X:Cx) (id:String) (r:V→List V→Hp→VK→Prop):Prop:=
 ∀ (pins:List (Addr×Obj)) (s:Shared) (σ:St) (H:Hp) (x:V) (xs:List V) (v:Value) (us:List Value) (Q:VK),Inv X pins σ H s→RelV x v→Vals xs us→r x xs H Q →
  wpAny (model X.prog X.w) X.A (call (.builtin id) (v::us)) (EP X pins σ Q) X.xe s
theorem Vals.one:∀ {x:V} {us:List Value},Vals [x] us→∃ u,us=[u]∧RelV x u
 | _,_,.cons r .nil=>⟨_,rfl,r⟩
theorem Vals.zero:∀ {us:List Value},Vals [] us→us=[]
 | _,.nil=>rfl
theorem Vals.dropLast {xs:List V} {us:List Value} (h:Vals xs us):Vals xs.dropLast us.dropLast:=by
 induction h with
 | nil=>exact .nil
 | cons r t ih =>
  cases t with
  | nil=>exact .nil
  | cons q t'=>exact .cons r ih
theorem Vals.eraseIdx:∀ {xs:List V} {us:List Value} (i:Nat),Vals xs us→Vals (xs.eraseIdx i) (us.eraseIdx i)
 | _,_,_,.nil=>.nil
 | _,_,0,.cons _ t=>t
 | _,_,i + 1,.cons r t=>.cons r (Vals.eraseIdx i t)
theorem Vals.rep {xs:List V} {us:List Value} (h:Vals xs us):∀ k:Nat,Vals (List.replicate k xs).flatten (List.replicate k us).flatten
 | 0=>.nil
 | k + 1=>by
  rw [List.replicate_succ,List.replicate_succ,List.flatten_cons,List.flatten_cons]
  exact Vals.append h (Vals.rep h k)
theorem erase_last {α:Type} (l:List α):l.eraseIdx (l.length - 1)=l.dropLast:=by
 induction l with
 | nil=>rfl
 | cons a r ih =>
  cases r with
  | nil=>rfl
  | cons b r =>
   have e:(a::b::r).length - 1=((b::r).length - 1) + 1:=by
    have h1:(a::b::r).length=r.length + 2:=rfl
    have h2:(b::r).length=r.length + 1:=rfl
    omega
   rw [e,List.eraseIdx_cons_succ,ih]
   all_goals rfl
theorem qcd {α:Type}:∀ (l:List α) (i:Nat),(l.eraseIdx i).length≤l.length
 | [],_=>yh _
 | _::_,0=>Nat.le_succ _
 | _::r,i + 1=>Nat.succ_le_succ (qcd r i)
theorem qce (its:List Value):∀ (k:Nat) (acc:List Value),
  List.foldl (fun x1 x2=>x1++x2) acc.toArray (List.replicate k its.toArray)=(acc++(List.replicate k its).flatten).toArray
 | 0,acc=>by simp
 | k + 1,acc=>by
  have e:acc.toArray++its.toArray=(acc++its).toArray:=by simp
  have e2:(acc++its)++(List.replicate k its).flatten=acc++(List.replicate (k + 1) its).flatten:=by
   rw [List.replicate_succ,List.flatten_cons,List.append_assoc]
  rw [← e2,← qce its k (acc++its),← e,List.replicate_succ,List.foldl_cons]
section
variable {X:Cx} {pins:List (Addr×Obj)} {σ:St} {H:Hp} {s:Shared} {l b:Addr} {xs ys zs:List V}
theorem Inv.lset {its its':List Value} {n:Nat} {f:Array Value→Array Value} {t':Nat} (I:Inv X pins σ H s) (hH:H l=some (.lst xs))
  (e:s.heap.get? l=some { cls:=.type "list",data:=.seq its.toArray n }) (hf:f its.toArray=its'.toArray) (hv:Vals ys its') (hz:ys.length≤sizeLine) :
  Inv X pins σ (upd H l (.lst ys)) { s with heap:=s.heap.update l (Obj.mapSeq f),toks:=t' }:=by
 have q:=PySem.IsL.update e f
 rw [hf] at q
 refine I.write (x:=l) (e:=l) (by rw [hH];exact trivial) (.inl rfl) (fun b' u hb hu=>(Heap.get?_update_other s.heap (Obj.mapSeq f) (Ne.symm hb)).trans hu) ⟨_,q⟩ ?_
 exact ⟨hz,its',_,hv,q⟩
theorem Inv.lnew {its:List Value} {t':Nat} (I:Inv X pins σ H s) (hv:Vals ys its) (hz:ys.length≤sizeLine) :
  Inv X pins σ (upd H s.heap.objs.size (.lst ys)) { s with heap:=s.heap.push { cls:=.type "list",data:=.seq its.toArray },toks:=t' }:=
 I.laid (fun _ _ q=>Heap.get?_push_of_some _ q) (yh _) ⟨hz,its,0,hv,Heap.get?_push_size _ rfl⟩
theorem Inv.fresh (I:Inv X pins σ H s):H s.heap.objs.size=none:=I.hok.fresh (yh _)
theorem Inv.lstM (I:Inv X pins σ H s) (hH:H l=some (.lst xs)):xs.length≤sizeLine∧∃ (its:List Value) (n:Nat),Vals xs its∧xs.length=its.length∧s.heap.get? l=some { cls:=.type "list",data:=.seq its.toArray n }:=by
 obtain ⟨z,its,n,r,e⟩:=I.hok l _ hH
 exact ⟨z,its,n,r,r.length,e⟩
theorem notLongL {n:Nat} (h:n≤sizeLine):Builtin.List.listTooLong n=false:=by
 unfold Builtin.List.listTooLong
 exact yl (by omega)
end
section
variable {X:Cx}
def qcG:V→List V→Hp→VK→Prop:=fun x vs H Q=>∃ l xs y,x=.ref l∧vs=[y]∧H l=some (.lst xs)∧xs.length < sizeLine∧Q .non (upd H l (.lst (xs++[y])))
theorem mt_append:MtM X "list.append" qcG:=by
 intro pins s σ H x vs v us Q I rx rv h
 obtain ⟨l,xs,y,rfl,rfl,hH,hz,q⟩:=h
 cases rx
 obtain ⟨u,rfl,ru⟩:=rv.one
 obtain ⟨z,its,n,r,hl,e⟩:=I.lstM hH
 refine call_meets F.slot_list_append ⟨_,e,rfl⟩ F.entry_list_append (F.args_list_append_2 _ _) (PySem.list_append l its.toArray n u (by rw [List.size_toArray];omega)) ⟨e,?_⟩
 refine ⟨.non,_,I.lset (its':=its++[u]) hH e (by simp) (r.append (.cons ru .nil)) ?_,rfl,q⟩
 rw [List.length_append,List.length_singleton]
 omega
def qg2:V→List V→Hp→VK→Prop:=fun x vs H Q=>∃ l xs y,x=.ref l∧vs=[]∧H l=some (.lst xs)∧xs[xs.length - 1]?=some y∧Q y (upd H l (.lst xs.dropLast))
theorem mt_pop:MtM X "list.pop" qg2:=by
 intro pins s σ H x vs v us Q I rx rv h
 obtain ⟨l,xs,y,rfl,rfl,hH,hy,q⟩:=h
 cases rx
 have hus:=rv.zero
 subst hus
 obtain ⟨z,its,n,r,hl,e⟩:=I.lstM hH
 obtain ⟨u,hu,ru⟩:=r.get hy
 have hy':its.toArray[its.toArray.size - 1]?=some u:=by
  show its.toArray[its.length - 1]?=some u
  rw [← Array.getElem?_toList,← hl]
  exact hu
 refine call_meets F.slot_list_pop ⟨_,e,rfl⟩ F.entry_list_pop (F.args_list_pop_1 _) (MeetsSeq.list_pop_last l its.toArray n u hy' (by rw [List.size_toArray];omega)) ⟨e,?_⟩
 refine ⟨y,_,I.lset (its':=its.dropLast) hH e ?_ r.dropLast ?_,ru,q⟩
 ·show its.toArray.eraseIdxIfInBounds (its.toArray.size - 1)=its.dropLast.toArray
  rw [List.size_toArray,List.eraseIdxIfInBounds_toArray,erase_last]
 ·rw [List.length_dropLast]
  omega
def qeP:V→List V→Hp→VK→Prop:=fun x vs H Q=>∃ l xs i k y,x=.ref l∧vs=[.int i]∧H l=some (.lst xs)∧-(2 ^ 63)≤i∧i < 2 ^ 63∧seqIndex? i xs.length=some k∧xs[k]?=some y∧Q y (upd H l (.lst (xs.eraseIdx k)))
theorem mt_popAt:MtM X "list.pop" qeP:=by
 intro pins s σ H x vs v us Q I rx rv h
 obtain ⟨l,xs,i,k,y,rfl,rfl,hH,h1,h2,hk,hy,q⟩:=h
 cases rx
 obtain ⟨u,rfl,ru⟩:=rv.one
 obtain ⟨t,rfl⟩:=ru
 obtain ⟨z,its,n,r,hl,e⟩:=I.lstM hH
 obtain ⟨w,hw,rw'⟩:=r.get hy
 refine call_meets F.slot_list_pop ⟨_,e,rfl⟩ F.entry_list_pop (F.args_list_pop_2 _ _)
  (MeetsSeq.list_pop_at l its.toArray n i t k w (fitsIndex_both h1 h2) (by rw [List.size_toArray,← hl];exact hk) (by rw [← Array.getElem?_toList];exact hw) (by rw [List.size_toArray];omega)) ⟨e,?_⟩
 refine ⟨y,_,I.lset (its':=its.eraseIdx k) hH e ?_ (r.eraseIdx k) ?_,rw',q⟩
 ·show its.toArray.eraseIdxIfInBounds k=(its.eraseIdx k).toArray
  rw [List.eraseIdxIfInBounds_toArray]
 ·have:=qcd xs k
  omega
def qg3:R2:=fun x y H Q=>∃ l b xs zs,x=.ref l∧y=.ref b∧H l=some (.lst xs)∧H b=some (.lst zs)∧xs.length + zs.length≤sizeLine∧∀ p,H p=none→Q (.ref p) (upd H p (.lst (xs++zs)))
theorem op_cat:OpR X (binaryOp .Add) qg3:=by
 intro pins s σ H x y v u Q I rx ry h
 obtain ⟨l,b,xs,zs,rfl,rfl,hH,hB,hz,q⟩:=h
 cases rx
 cases ry
 obtain ⟨z,its,n,r,hl,e⟩:=I.lstM hH
 obtain ⟨z2,its2,n2,r2,hl2,e2⟩:=I.lstM hB
 refine PySem.P.add_list e e2 ?_ (by rw [List.size_toArray,List.size_toArray];omega)
 have ea:its.toArray++its2.toArray=(its++its2).toArray:=by simp
 rw [ea]
 exact ⟨.ref _,_,I.lnew (t':=s.toks) (r.append r2) (by rw [List.length_append];omega),rfl,q _ I.fresh⟩
def qg4:R2:=fun x y H Q=>∃ l k xs,x=.ref l∧y=.int k∧H l=some (.lst xs)∧-(2 ^ 63)≤k∧k < 2 ^ 63∧xs.length * k.toNat≤sizeLine ∧
 ∀ p,H p=none→Q (.ref p) (upd H p (.lst (List.replicate k.toNat xs).flatten))
theorem len_rep {α:Type} (xs:List α) (k:Nat):(List.replicate k xs).flatten.length=k * xs.length:=by
 induction k with
 | zero=>simp
 | succ k ih=>rw [List.replicate_succ,List.flatten_cons,List.length_append,ih,Nat.succ_mul,Nat.add_comm]
theorem qeQ:OpR X (binaryOp .Mult) qg4:=by
 intro pins s σ H x y v u Q I rx ry h
 obtain ⟨l,k,xs,rfl,rfl,hH,h1,h2,hz,q⟩:=h
 cases rx
 obtain ⟨t,rfl⟩:=ry
 obtain ⟨z,its,n,r,hl,e⟩:=I.lstM hH
 have hlen:its.toArray.size * k.toNat≤sizeLine:=by rw [List.size_toArray,← hl];exact hz
 have hcap:¬ its.toArray.size * k.toNat > (2 ^ 63 - 1) / 8:=by
  have:(sizeLine:Nat)≤(2 ^ 63 - 1) / 8:=by decide
  omega
 have hfit:¬ (!Builtin.List.listFitsIndex k)=true:=by
  rw [fitsIndex_both h1 h2]
  exact Bool.false_ne_true
 have hlong:¬ Builtin.List.listTooLong (its.toArray.size * k.toNat)=true:=by
  rw [notLongL hlen]
  exact Bool.false_ne_true
 have hnew:List.foldl (fun x1 x2=>x1++x2) #[] (List.replicate (if its.toArray.isEmpty=true then 0 else k.toNat) its.toArray)=(List.replicate k.toNat its).flatten.toArray:=by
  have f0:∀ m:Nat,List.foldl (fun x1 x2=>x1++x2) #[] (List.replicate m its.toArray)=(List.replicate m its).flatten.toArray:=fun m=>by
   have:=qce its m []
   rw [List.nil_append] at this
   exact this
  rw [f0]
  cases its with
  | nil=>simp
  | cons a r'=>rw [if_neg (by simp)]
 refine wpAny_binaryOp_repeat_ref (T:="list") (U:="int") (by decide) ⟨_,e,rfl⟩ (fun s'=>typeIs_int s' k t) noFill_list_mul F.fills_int_mul F.slot_int_rmul repeat_list F.slot_int_index.lookup
  (call_meets F.slot_int_rmul (typeIs_int s k t) F.entry_int_rmul (F.args_int_rmul_2 _ _) (int___rmul___int_list k t l its.toArray n)
   ⟨e,rfl,⟨_,e,rfl⟩,call_meets F.slot_list_mul ⟨_,e,rfl⟩ F.entry_list_mul (F.args_list_mul_2 _ _) (AutoListH.list___mul___list_int_3 l its.toArray n k t hfit hcap hlong) ⟨e,?_⟩⟩)
 rw [hnew]
 exact ⟨.ref _,_,I.lnew (t':=s.toks) (r.rep k.toNat) (by rw [len_rep,Nat.mul_comm];exact hz),rfl,q _ I.fresh⟩
end
section
variable {prog:Program} {w:World} {A:Around} {E:Value→Shared→Prop} {s:Shared}
set_option maxRecDepth 100000 in
end
section
variable {X:Cx}
end
section
variable {κ:Type} [DecidableEq κ]
def zy (kvs:List (κ×V)) (k:κ):Option V:=(kvs.find? fun kv=>decide (kv.1=k)).map (·.2)
def qas (kvs:List (κ×V)) (k:κ) (v:V):List (κ×V):=
 if (kvs.any fun kv=>decide (kv.1=k))=true then kvs.map (fun kv=>if kv.1=k then (kv.1,v) else kv) else kvs++[(k,v)]
def dropK (kvs:List (κ×V)) (k:κ):List (κ×V):=kvs.filter fun kv=>decide (kv.1≠k)
theorem jk {p:κ×V} {r:List (κ×V)} {k:κ} (e:p.1=k):zy (p::r) k=some p.2:=by simp [zy,List.find?_cons,e]
theorem qY {p:κ×V} {r:List (κ×V)} {k:κ} (e:¬ p.1=k):zy (p::r) k=zy r k:=by simp [zy,List.find?_cons,e]
theorem qaF (k:κ):∀ kvs:List (κ×V),(kvs.any fun kv=>decide (kv.1=k))=(zy kvs k).isSome
 | []=>rfl
 | p::r=>by
  rw [List.any_cons]
  by_cases e:p.1=k
  ·simp only [jk e,decide_eq_true e,Bool.true_or,Option.isSome_some]
  ·rw [qY e,yl e,Bool.false_or];exact qaF k r
theorem qc4 (k j:κ) (y:V):∀ kvs:List (κ×V),zy (kvs.map fun kv=>if kv.1=k then (kv.1,y) else kv) j=(zy kvs j).map fun x=>if j=k then y else x
 | []=>rfl
 | p::r=>by
  have ih:=qc4 k j y r
  rw [List.map_cons]
  by_cases h:p.1=k
  ·rw [if_pos h]
   by_cases e:p.1=j
   ·rw [jk (p:=(p.1,y)) e,jk e,Option.map_some,if_pos (e.symm.trans h)]
   ·rw [qY (p:=(p.1,y)) e,qY e,ih]
  ·rw [if_neg h]
   by_cases e:p.1=j
   ·rw [jk (p:=p) e,jk e,Option.map_some,if_neg (fun z=>h (e.trans z))]
   ·rw [qY (p:=p) e,qY e,ih]
theorem qcf (k j:κ) (y:V):∀ kvs:List (κ×V),zy kvs k=none→zy (kvs++[(k,y)]) j=if j=k then some y else zy kvs j
 | [],_=>by
  by_cases e:k=j
  ·rw [if_pos e.symm];exact jk (p:=(k,y)) e
  ·rw [if_neg (fun z=>e z.symm)];exact qY (p:=(k,y)) e
 | p::r,hn=>by
  rw [List.cons_append]
  have hk:¬ p.1=k:=fun z=>by rw [jk z] at hn;cases hn
  rw [qY hk] at hn
  have ih:=qcf k j y r hn
  by_cases e:p.1=j
  ·rw [jk e,jk e,if_neg (fun z=>hk (e.trans z))]
  ·rw [qY e,qY e,ih]
theorem qbM (kvs:List (κ×V)) (k j:κ) (y:V):zy (qas kvs k y) j=if j=k then some y else zy kvs j:=by
 unfold qas
 by_cases a:(kvs.any fun kv=>decide (kv.1=k))=true
 ·rw [if_pos a,qc4]
  rw [qaF] at a
  by_cases e:j=k
  ·obtain ⟨x,hx⟩:=Option.isSome_iff_exists.mp a
   rw [if_pos e,e,hx,Option.map_some,if_pos rfl]
  ·rw [if_neg e]
   cases zy kvs j with
   | none=>rfl
   | some x=>rw [Option.map_some,if_neg e]
 ·rw [if_neg a]
  refine qcf k j y kvs ?_
  rw [qaF] at a
  cases q:zy kvs k with
  | none=>rfl
  | some x=>rw [q] at a;exact (a rfl).elim
theorem jy (kvs:List (κ×V)) (k:κ) (v:V):(qas kvs k v).length≤kvs.length + 1:=by
 unfold qas
 split
 ·rw [ya];omega
 ·rw [List.length_append,List.length_cons,List.length_nil];omega
theorem qa9 {kvs:List (κ×V)} {k:κ} (v:V) (h:zy kvs k=none):qas kvs k v=kvs++[(k,v)]:=by
 unfold qas
 rw [qaF,h]
 exact if_neg (by decide)
theorem RelO.isSome_eq {o:Option V} {u:Option Value} (r:RelO o u):o.isSome=u.isSome:=by
 cases o with
 | none=>cases u with
  | none=>rfl
  | some _=>exact (show False from r).elim
 | some _=>cases u with
  | none=>exact (show False from r).elim
  | some _=>rfl
theorem RelO.getD {o:Option V} {u:Option Value} {d:V} {d':Value} (r:RelO o u) (rd:RelV d d'):RelV (o.getD d) (u.getD d'):=by
 cases o with
 | none=>cases u with
  | none=>exact rd
  | some _=>exact (show False from r).elim
 | some _=>cases u with
  | none=>exact (show False from r).elim
  | some _=>exact r
theorem KV.val {kvs:List (κ×V)} {vs:List (κ×Value)} (r:KV kvs vs) (k:κ):RelO (zy kvs k) (valueAt vs k):=by
 unfold KV at r
 induction r with
 | nil=>exact True.intro
 | @cons p q ps qs h t ih =>
  obtain ⟨h1,h2⟩:=h
  by_cases e:p.1=k
  ·have e':q.1=k:=h1.symm.trans e
   have b:valueAt (q::qs) k=some q.2:=by simp [valueAt,List.find?_cons,e']
   rw [jk e,b];exact h2
  ·have e':¬ q.1=k:=fun z=>e (h1.trans z)
   have b:valueAt (q::qs) k=valueAt qs k:=by simp [valueAt,List.find?_cons,e']
   rw [qY e,b];exact ih
theorem KV.any {kvs:List (κ×V)} {vs:List (κ×Value)} (r:KV kvs vs) (k:κ):(kvs.any fun kv=>decide (kv.1=k))=vs.any fun kv=>decide (kv.1=k):=by
 unfold KV at r
 induction r with
 | nil=>rfl
 | cons h t ih=>rw [List.any_cons,List.any_cons,ih,h.1]
theorem KV.repl {kvs:List (κ×V)} {vs:List (κ×Value)} (r:KV kvs vs) (k:κ) {y:V} {u:Value} (ry:RelV y u) :
  KV (kvs.map fun kv=>if kv.1=k then (kv.1,y) else kv) (vs.map fun kv=>if kv.1=k then (kv.1,u) else kv):=by
 unfold KV at r ⊢
 induction r with
 | nil=>exact .nil
 | @cons p q ps qs h t ih =>
  rw [List.map_cons,List.map_cons]
  refine .cons ?_ ih
  obtain ⟨h1,h2⟩:=h
  by_cases e:p.1=k
  ·rw [if_pos e,if_pos (h1.symm.trans e)];exact ⟨h1,ry⟩
  ·rw [if_neg e,if_neg (fun z=>e (h1.trans z))];exact ⟨h1,h2⟩
theorem KV.put {kvs:List (κ×V)} {vs:List (κ×Value)} (r:KV kvs vs) (k:κ) {y:V} {u:Value} (ry:RelV y u):KV (qas kvs k y) (stored vs k u):=by
 unfold qas stored
 rw [r.any k]
 by_cases e:(vs.any fun kv=>decide (kv.1=k))=true
 ·rw [if_pos e,if_pos e];exact r.repl k ry
 ·rw [if_neg e,if_neg e];exact Paired.snoc r ⟨rfl,ry⟩
theorem KV.length {kvs:List (κ×V)} {vs:List (κ×Value)} (r:KV kvs vs):kvs.length=vs.length:=Paired.length r
end
theorem qdG {P:Program} {w:World} {k:Key} {u:Value} (r:RelV (kV k) u):(jd P w).is k u=true:=by
 cases k with
 | inl i=>obtain ⟨t,e⟩:=(show ∃ t,u=Value.int i t from r);subst e;exact mixKind_int P w i t
 | inr x=>obtain ⟨t,e⟩:=(show ∃ t,u=Value.str x t from r);subst e;exact mixKind_str P w x t
theorem qcg {P:Program} {w:World}:∀ {ks:List Key} {us:List Value},Vals (ks.map kV) us→ItemsAre (jd P w) ks us
 | [],_,r=>by rw [List.map_nil] at r;cases r;exact .nil
 | k::ks,_,r=>by
  rw [List.map_cons] at r
  cases r with
  | cons h t=>exact .cons (qdG h) (qcg t)
abbrev KT (H:Hp):List (List Key×V)→List (List Key×Addr×Value)→Prop:=Paired fun p q=>p.1=q.1∧H q.2.1=some (.tup (p.1.map kV))∧RelV p.2 q.2.2
theorem KT.val {H:Hp} {kvs:List (List Key×V)} {xs:List (List Key×Addr×Value)} (r:KT H kvs xs) (k:List Key):RelO (zy kvs k) ((atKey xs k).map (·.2)):=by
 induction r with
 | nil=>exact True.intro
 | @cons p q ps qs h t ih =>
  obtain ⟨h1,_,h2⟩:=h
  by_cases e:p.1=k
  ·have e':q.1=k:=h1.symm.trans e
   have b:atKey (q::qs) k=some q.2:=by simp [atKey,List.find?_cons,e']
   rw [jk e,b];exact h2
  ·have e':¬ q.1=k:=fun z=>e (h1.trans z)
   have b:atKey (q::qs) k=atKey qs k:=by simp [atKey,List.find?_cons,e']
   rw [qY e,b];exact ih
theorem KT.repl {H:Hp} {kvs:List (List Key×V)} {xs:List (List Key×Addr×Value)} (r:KT H kvs xs) (k:List Key) {y:V} {u:Value} (ry:RelV y u) :
  KT H (kvs.map fun kv=>if kv.1=k then (kv.1,y) else kv) (xs.map (putAt k u)):=by
 induction r with
 | nil=>exact .nil
 | @cons p q ps qs h t ih =>
  rw [List.map_cons,List.map_cons]
  refine .cons ?_ ih
  obtain ⟨h1,h2,h3⟩:=h
  unfold putAt
  by_cases e:p.1=k
  ·rw [if_pos e,if_pos (h1.symm.trans e)];exact ⟨h1,h2,ry⟩
  ·rw [if_neg e,if_neg (fun z=>e (h1.trans z))];exact ⟨h1,h2,h3⟩
theorem KT.put {H:Hp} {kvs:List (List Key×V)} {xs:List (List Key×Addr×Value)} (r:KT H kvs xs) (k:List Key) {b:Addr} {y:V} {u:Value} (hb:H b=some (.tup (k.map kV))) (ry:RelV y u) :
  KT H (qas kvs k y) (storedH xs k b u):=by
 have e:(kvs.any fun kv=>decide (kv.1=k))=(atKey xs k).isSome:=by
  rw [qaF,(r.val k).isSome_eq,Option.isSome_map]
 unfold qas storedH
 rw [e]
 by_cases q:(atKey xs k).isSome=true
 ·rw [if_pos q,if_pos q];exact r.repl k ry
 ·rw [if_neg q,if_neg q];exact Paired.snoc r ⟨rfl,hb,ry⟩
theorem KT.keeps {H H':Hp} {kvs:List (List Key×V)} {xs:List (List Key×Addr×Value)} (r:KT H kvs xs) (ht:∀ b ys,H b=some (.tup ys)→H' b=some (.tup ys)):KT H' kvs xs:=
 Paired.mapP r fun _ _ z=>⟨z.1,ht _ _ z.2.1,z.2.2⟩
section
variable {P:Program} {w:World} {H:Hp} {h:Heap} {a:Addr}
theorem qfT {u:HO} (ok:HOk P w H h) (e:Rd H a u):ObjOk P w H h a u:=e.ok ok
theorem qch {kvs:List (Key×V)} (ok:HOk P w H h) (e:Rd H a (.dK kvs)):kvs.length≤sizeLine∧(a==sysModules)=false∧∃ vs,KV kvs vs∧h.DictOf (jd P w) a vs:=
 show ObjOk P w H h a (.dK kvs) from qfT ok e
theorem qfU {kvs:List (Key×V)} (ok:HOk P w H h) (e:H a=some (.dK kvs)):kvs.length≤sizeLine∧(a==sysModules)=false∧∃ vs,KV kvs vs∧h.DictOf (jd P w) a vs:=qch ok (.inl e)
theorem qbA {ks:List Key} (ok:HOk P w H h) (e:H a=some (.tup (ks.map kV))):(tupleKind (jd P w)).is h ks a:=by
 obtain ⟨_,its,r,o,h1,h2,n,h3⟩:=(show ObjOk P w H h a (.tup (ks.map kV)) from ok a _ e)
 exact ⟨o,its.toArray,n,h1,h2,h3,by simpa using qcg r⟩
theorem qcH {kvs:List (List Key×V)} (ok:HOk P w H h) (e:Rd H a (.dT kvs)):kvs.length≤sizeLine∧(a==sysModules)=false ∧
  ∃ xs,KT H kvs xs∧h.DictOfH (tupleKind (jd P w)) a xs:=by
 obtain ⟨z,y,xs,r,o,es,ep,h1,h2,h3,h4,h5⟩:=(show ObjOk P w H h a (.dT kvs) from qfT ok e)
 refine ⟨z,y,xs,r,o,es,ep,h1,h2,h3,h4,fun x hx=>?_,h5⟩
 have all:∀ {l:List (List Key×V)} {m:List (List Key×Addr×Value)},KT H l m→∀ x∈m,(tupleKind (jd P w)).is h x.1 x.2.1:=by
  intro l m q
  induction q with
  | nil=>intro x hx;exact nomatch hx
  | @cons p q ps qs hq t ih =>
   intro x hx
   rcases List.mem_cons.mp hx with e | hx
   ·subst e
    exact qbA ok (by rw [← hq.1];exact hq.2.1)
   ·exact ih x hx
 exact all r x hx
theorem dt_of {kvs:List (List Key×V)} (ok:HOk P w H h) (e:H a=some (.dT kvs)):kvs.length≤sizeLine∧(a==sysModules)=false ∧
  ∃ xs,KT H kvs xs∧h.DictOfH (tupleKind (jd P w)) a xs:=qcH ok (.inl e)
end
def DGet (H:Hp) (a:Addr) (y:V) (r:Option V):Prop:=
 (∃ kvs k,Rd H a (.dK kvs)∧y=kV k∧r=zy kvs k)∨∃ kvs k b,Rd H a (.dT kvs)∧y=.ref b∧H b=some (.tup (k.map kV))∧r=zy kvs k
def DPut (H:Hp) (a:Addr) (y v:V) (H':Hp):Prop:=
 (∃ kvs k,H a=some (.dK kvs)∧y=kV k∧kvs.length < sizeLine∧H'=upd H a (.dK (qas kvs k v))) ∨
 ∃ kvs k b,H a=some (.dT kvs)∧y=.ref b∧H b=some (.tup (k.map kV))∧kvs.length < sizeLine∧H'=upd H a (.dT (qas kvs k v))
theorem DGet.k {H:Hp} {a:Addr} {kvs:List (Key×V)} {k:Key} (e:H a=some (.dK kvs)):DGet H a (kV k) (zy kvs k):=.inl ⟨kvs,k,.inl e,rfl,rfl⟩
theorem DPut.k {H:Hp} {a:Addr} {kvs:List (Key×V)} {k:Key} {v:V} (e:H a=some (.dK kvs)) (hl:kvs.length < sizeLine):DPut H a (kV k) v (upd H a (.dK (qas kvs k v))):=.inl ⟨kvs,k,e,rfl,hl,rfl⟩
section
variable {X:Cx} {pins:List (Addr×Obj)} {σ:St} {H:Hp} {s:Shared} {a:Addr} {y v:V} {u r:Value} {o:Option V} {A:Around} {E:Value→Shared→Prop}
theorem Inv.big (I:Inv X pins σ H s):sysModules < s.heap.objs.size:=by
 have h:mainGlobals < s.heap.objs.size:=(I.mod.glob.keeps I.bk).lt
 exact Nat.lt_trans (by decide) h
theorem d_getItem {Q:Value→Shared→Prop} (hu:A.units + 1 < cLine) (I:Inv X pins σ H s) (g:DGet H a y (some v)) (ry:RelV y u) (h:∀ w' s',Inv X pins σ H s'→RelV v w'→Q w' s') :
  wpAny (model X.prog X.w) A (getItem (.ref a) u) Q E s:=by
 rcases g with ⟨kvs,k,e,ey,l⟩ | ⟨kvs,k,b,e,ey,eb,l⟩
 ·subst ey
  obtain ⟨z,hd,vs,rel,dd⟩:=qch I.hok e
  obtain ⟨w',hw,rw'⟩:=RelO.some_of (v:=v) (o:=valueAt vs k) (by rw [l];exact rel.val k)
  exact wpAny_getItem_of (qdG ry) dd.mapOf hw (h w' _ (I.tok _) rw')
 ·subst ey
  cases (show u=Value.ref b from ry)
  obtain ⟨z,hd,xs,rel,dd⟩:=qcH I.hok e
  obtain ⟨w',hw,rw'⟩:=RelO.some_of (v:=v) (o:=(atKey xs k).map (·.2)) (by rw [l];exact rel.val k)
  obtain ⟨p,hp,hp2⟩:=yn.mp hw
  refine wpAny_getItem_heap (tupleKind_room_in1 hu) (qbA I.hok eb) dd hp ?_
  rw [hp2]
  exact h w' _ (I.tok _) rw'
theorem d_in {Q:Value→Shared→Prop} (hu:A.units + 1 < cLine) (I:Inv X pins σ H s) (g:DGet H a y o) (ry:RelV y u) (h:∀ s',Inv X pins σ H s'→Q (.bool o.isSome) s') :
  wpAny (model X.prog X.w) A (compareOp .In u (.ref a)) Q E s:=by
 rcases g with ⟨kvs,k,e,ey,l⟩ | ⟨kvs,k,b,e,ey,eb,l⟩
 ·subst ey
  obtain ⟨z,hd,vs,rel,dd⟩:=qch I.hok e
  refine wpAny_in_of (qdG ry) hd dd.mapOf ?_
  rw [← (rel.val k).isSome_eq,← l]
  exact h _ (I.tok _)
 ·subst ey
  cases (show u=Value.ref b from ry)
  obtain ⟨z,hd,xs,rel,dd⟩:=qcH I.hok e
  refine wpAny_in_heap (tupleKind_room_in1 hu) (qbA I.hok eb) hd dd ?_
  have q:=(rel.val k).isSome_eq
  rw [Option.isSome_map] at q
  rw [← q,← l]
  exact h _ (I.tok _)
theorem d_notIn {Q:Value→Shared→Prop} (hu:A.units + 1 < cLine) (I:Inv X pins σ H s) (g:DGet H a y o) (ry:RelV y u) (h:∀ s',Inv X pins σ H s'→Q (.bool (!o.isSome)) s') :
  wpAny (model X.prog X.w) A (compareOp .NotIn u (.ref a)) Q E s:=by
 rcases g with ⟨kvs,k,e,ey,l⟩ | ⟨kvs,k,b,e,ey,eb,l⟩
 ·subst ey
  obtain ⟨z,hd,vs,rel,dd⟩:=qch I.hok e
  refine wpAny_notIn_of (qdG ry) hd dd.mapOf ?_
  rw [← (rel.val k).isSome_eq,← l]
  exact h _ (I.tok _)
 ·subst ey
  cases (show u=Value.ref b from ry)
  obtain ⟨z,hd,xs,rel,dd⟩:=qcH I.hok e
  refine wpAny_notIn_heap (tupleKind_room_in1 hu) (qbA I.hok eb) hd dd ?_
  have q:=(rel.val k).isSome_eq
  rw [Option.isSome_map] at q
  rw [← q,← l]
  exact h _ (I.tok _)
theorem qdU {h':Heap} {t':Nat} {ob:HO} (I:Inv X pins σ H s) (mu:Mut (H a)) (hs:Heap.SameBut a s.heap h') (he:∃ q,h'.get? a=some q) (new:ObjOk X.prog X.w (upd H a ob) h' a ob) :
  Inv X pins σ (upd H a ob) { s with heap:=h',toks:=t' }:=
 I.write (x:=a) (e:=a) mu (.inl rfl) (fun b q hb z=>(hs.2 b hb).trans z) he new
theorem dk_new {P:Program} {w:World} {H':Hp} {h':Heap} {kvs:List (Key×V)} {vs:List (Key×Value)} (z:kvs.length≤sizeLine) (hd:(a==sysModules)=false) (rel:KV kvs vs) (dd:h'.DictOf (jd P w) a vs) :
  ObjOk P w H' h' a (.dK kvs):=⟨z,hd,vs,rel,dd⟩
theorem d_setItem {H':Hp} {Q:Unit→Shared→Prop} (hu:A.units + 1 < cLine) (I:Inv X pins σ H s) (g:DPut H a y v H') (ry:RelV y u) (rv:RelV v r) (h:∀ s',Inv X pins σ H' s'→Q () s') :
  wpAny (model X.prog X.w) A (setItem (.ref a) u r) Q E s:=by
 rcases g with ⟨kvs,k,e,ey,l,eH⟩ | ⟨kvs,k,b,e,ey,eb,l,eH⟩
 ·subst ey eH
  obtain ⟨z,hd,vs,rel,dd⟩:=qfU I.hok e
  have hz:vs.length≤sizeLine:=by rw [← rel.length];exact z
  have hl:(qas kvs k v).length≤sizeLine:=by have:=jy kvs k v;omega
  refine wpAny_setItem_pairs (hsz:=hz) (qdG ry) dd fun h' dd' hs=>h _ ?_
  have he:∃ q,h'.get? a=some q:=let ⟨q,_,_,hq,_⟩:=dd';⟨q,hq⟩
  exact qdU I (by rw [e];exact True.intro) hs he (dk_new hl hd (rel.put k rv) dd')
 ·subst ey eH
  cases (show u=Value.ref b from ry)
  obtain ⟨z,hd,xs,rel,dd⟩:=dt_of I.hok e
  have hz:xs.length≤sizeLine:=by rw [← Paired.length rel];exact z
  have hl:(qas kvs k v).length≤sizeLine:=by have:=jy kvs k v;omega
  refine wpAny_setItem_heap (hsz:=hz) (tupleKind_room_in1 hu) (qbA I.hok eb) dd fun h' dd' hs=>h _ ?_
  obtain ⟨q,es,ep,hq,h2,h3,h4,_,h5⟩:=dd'
  refine qdU I (by rw [e];exact True.intro) hs ⟨q,hq⟩ ⟨hl,hd,_,(rel.put k eb rv).keeps fun c ys ec=>?_,q,es,ep,hq,h2,h3,h4,h5⟩
  rw [qh (qa5 ec e (fun z=>nomatch z))]
  exact ec
end
section
variable {X:Cx} {pins:List (Addr×Obj)} {σ:St} {H:Hp} {s:Shared} {a:Addr} {kvs:List (Key×V)} {k:Key} {u:Value} {A:Around} {E:Value→Shared→Prop}
theorem d_len {Q:Value→Shared→Prop} (I:Inv X pins σ H s) (e:Rd H a (.dK kvs)) (h:∀ t s',Inv X pins σ H s'→Q (.int kvs.length t) s'):wpAny (model X.prog X.w) A (call (.builtin "len") [.ref a]) Q E s:=by
 obtain ⟨z,hd,vs,rel,dd⟩:=qch I.hok e
 refine call_len_dict hd dd (by rw [← rel.length];rw [sizeLine_eq] at z;omega) ?_
 rw [← rel.length]
 exact h _ _ (I.tok _)
end
theorem dict_typeIs {X:Cx} {pins:List (Addr×Obj)} {σ:St} {H:Hp} {s:Shared} {a:Addr} {y:V} {o:Option V} (I:Inv X pins σ H s) (g:DGet H a y o):s.TypeIs (.ref a) "dict":=by
 rcases g with ⟨kvs,k,e,_,_⟩ | ⟨kvs,k,b,e,_,_,_⟩
 ·obtain ⟨_,_,vs,_,dd⟩:=qch I.hok e
  exact dd.typeIs
 ·obtain ⟨_,_,xs,_,dd⟩:=qcH I.hok e
  exact dd.typeIs
section
variable {X:Cx} {o i e value:Expr} {pos pos' tpos:Pos} {td ty tv:TE}
end
theorem dk_empty {P:Program} {w:World} {H:Hp} (h:Heap) (hb:sysModules < h.objs.size):ObjOk P w H (h.push { cls:=.type "dict",data:=.dict #[] }) h.objs.size (.dK []):=
 ⟨Nat.zero_le _,beq_eq_false_iff_ne.mpr (Ne.symm (Nat.ne_of_lt hb)),[],.nil,Heap.DictOf.new h⟩
def qeR:TE:=fun _ H Q=>∀ p,H p=none→Q (.ref p) (upd H p (.dK []))
section
variable {X:Cx} {pos:Pos}
theorem zr:PE X (.Dict [] [] pos) qeR:=fun pins s σ H Q I h =>
 wpAny_Dict_empty ⟨.ref s.heap.objs.size,_,I.laid (a:=s.heap.objs.size) (o:=.dK []) (t':=s.toks) (fun _ _ q=>Heap.get?_push_of_some _ q) (yh _) (dk_empty s.heap I.big),rfl,h _ (I.hok.fresh (yh _))⟩
end
structure M1 (X:Cx) (o:Expr) (m:Str) (apos:Pos) (e:Expr) (cpos:Pos):Prop where
 base:attributeBase o m X.env (eval o X.env)=eval o X.env
 few:((backTo cpos (starEach [e] X.env)).all (fun x=>!x.1)&&(backToKw cpos (keywordEach [] X.env)).all (fun x=>x.1.isSome)
  && decide (([e]:List Expr).length + ([]:List Keyword).length + (if ([]:List Keyword).isEmpty then 0 else 1) < 30))=true
 line:(apos.endLine==cpos.line)=true
 trees:backTo cpos (starEach [e] X.env)=[(false,eval e X.env)]
structure M2 (X:Cx) (o:Expr) (m:Str) (apos:Pos) (e f:Expr) (cpos:Pos):Prop where
 base:attributeBase o m X.env (eval o X.env)=eval o X.env
 few:((backTo cpos (starEach [e,f] X.env)).all (fun x=>!x.1)&&(backToKw cpos (keywordEach [] X.env)).all (fun x=>x.1.isSome)
  && decide (([e,f]:List Expr).length + ([]:List Keyword).length + (if ([]:List Keyword).isEmpty then 0 else 1) < 30))=true
 line:(apos.endLine==cpos.line)=true
 trees:backTo cpos (starEach [e,f] X.env)=[(false,eval e X.env),(false,eval f X.env)]
def IsD (H:Hp) (a:Addr):Prop:=(∃ kvs,Rd H a (.dK kvs))∨∃ kvs,Rd H a (.dT kvs)
theorem isD_at {X:Cx} {pins:List (Addr×Obj)} {σ:St} {H:Hp} {s:Shared} {a:Addr} (I:Inv X pins σ H s) (d:IsD H a) :
  s.TypeIs (.ref a) "dict"∧(∀ b,Value.ref a=.ref b→∃ ob,s.heap.get? b=some ob∧ob.dict=none)∧(a==sysModules)=false:=by
 rcases d with ⟨kvs,e⟩ | ⟨kvs,e⟩
 ·obtain ⟨_,hd,vs,_,dd⟩:=qch I.hok e
  refine ⟨dd.typeIs,fun b q=>?_,hd⟩
  cases q
  obtain ⟨ob,_,_,h1,h2,_⟩:=dd
  exact ⟨ob,h1,h2.2.1⟩
 ·obtain ⟨_,hd,xs,_,dd⟩:=qcH I.hok e
  refine ⟨dd.typeIs,fun b q=>?_,hd⟩
  cases q
  obtain ⟨ob,_,_,h1,h2,_⟩:=dd
  exact ⟨ob,h1,h2.2.1⟩
section
variable {X:Cx} {pins:List (Addr×Obj)} {σ:St} {H:Hp} {s:Shared} {a:Addr} {y d:V} {u r:Value} {o:Option V} {A:Around} {E:Value→Shared→Prop}
theorem d_get1 {Q:Value→Shared→Prop} (hu:A.units + 1 < cLine) (I:Inv X pins σ H s) (g:DGet H a y o) (ry:RelV y u) (h:∀ w' s',Inv X pins σ H s'→RelV (o.getD .non) w'→Q w' s') :
  wpAny (model X.prog X.w) A (call (.builtin "dict.get") [.ref a,u]) Q E s:=by
 rcases g with ⟨kvs,k,e,ey,l⟩ | ⟨kvs,k,b,e,ey,eb,l⟩
 ·subst ey
  obtain ⟨z,hd,vs,rel,dd⟩:=qch I.hok e
  refine call_meetsIn PySem.F.slot_dict_get dd.typeIs PySem.F.entry_dict_get (PySem.F.args_dict_get_2 _ _) (meets_dict_get (jd X.prog X.w) a (qdG ry) hd) ⟨_,dd.mapOf,h _ _ (I.tok _) ?_⟩
  rw [l]
  exact (rel.val k).getD rfl
 ·subst ey
  cases (show u=Value.ref b from ry)
  obtain ⟨z,hd,xs,rel,dd⟩:=qcH I.hok e
  refine call_meetsIn PySem.F.slot_dict_get dd.typeIs PySem.F.entry_dict_get (PySem.F.args_dict_get_2 _ _) (meetsH_dict_get (tupleKind (jd X.prog X.w)) a b hd) ⟨tupleKind_room_in1 hu,k,xs,qbA I.hok eb,dd,h _ _ (I.tok _) ?_⟩
  rw [l]
  exact (rel.val k).getD rfl
end
def qeS (td ty:TE):TE:=fun σ H Q=>td σ H fun x H1=>∃ a,x=.ref a∧IsD H1 a∧ty σ H1 fun y H2=>∃ o,DGet H2 a y o∧Q (o.getD .non) H2
def tDGet2 (td ty tx:TE):TE:=fun σ H Q=>td σ H fun x H1=>∃ a,x=.ref a∧IsD H1 a∧ty σ H1 fun y H2=>tx σ H2 fun z H3=>∃ o,DGet H3 a y o∧Q (o.getD z) H3
section
variable {X:Cx} {o e f:Expr} {apos cpos:Pos} {td ty tx:TE}
theorem zt (hu:X.A.units + 1 < cLine) (ho:PE X o td) (he:PE X e ty) (m:M1 X o "get" apos e cpos):PE X (.Call (.Attribute o "get" apos) [e] [] cpos) (qeS td ty):=by
 intro pins s σ H Q I h
 refine wpAny_Call_method m.base m.few m.line PySem.F.plainAttrs_dict PySem.F.slot_dict_get PySem.F.type_dict_get (thn (ho pins s σ H _ I h) fun u s1 ⟨x,H1,I1,rx,a,ex,d,q1⟩=>?_)
 subst ex
 obtain rfl:u=Value.ref a:=rx
 obtain ⟨t1,t2,_⟩:=isD_at I1 d
 refine ⟨t1,t2,?_⟩
 rw [m.trees]
 refine Calls.callWith_builtin rfl (Calls.evalArgs_plain (Calls.spliced_cons (thn (he pins s1 σ H1 _ I1 q1) fun iv s2 ⟨y,H2,I2,ry,ov,g,q2⟩=>Calls.spliced_nil ?_)))
 exact d_get1 hu I2 g ry fun w' s3 I3 rw'=>⟨_,H2,I3,rw',q2⟩
end
section
variable {X:Cx} {pins:List (Addr×Obj)} {σ:St} {H:Hp} {s:Shared} {a:Addr} {kvs:List (Key×V)} {A:Around} {E:Value→Shared→Prop}
end
section
variable {X:Cx} {pins:List (Addr×Obj)} {σ:St} {H:Hp} {s:Shared} {a:Addr} {y:V} {u:Value} {A:Around} {E:Value→Shared→Prop}
end
end L2
namespace Att
open PySem PySem.W PySem.Calls PyProof.Rows
theorem ints_of_wellAll {P:Params} {h:Heap}:∀ (ns:List Int) (vs:List Value),WellAll P h vs (ns.map WData.int)→IntsAre vs ns:=by
 intro ns
 induction ns with
 | nil =>
  intro vs w
  rw [List.map_nil] at w
  cases w
  exact .nil
 | cons n ns ih =>
  intro vs w
  rw [List.map_cons] at w
  cases w with
  | cons a b =>
   cases a
   exact .cons _ _ (ih _ b)
theorem script_of {l:OpenLaw} {n:Nat} (hn:l.most=some n) {P:Params} {h:Heap} {args:List WData} {vals:List Value}
  (hpre:l.row.toRowW.claim.pre args=true) (hwl:WellAll P h vals args) :
  ∃ a vs ns,vals=[Value.ref a]∧args=[WData.list (ns.map WData.int)]∧h.get? a=some { cls:=.type "list",data:=.seq vs.toArray }∧IntsAre vs ns∧ns.length≤n:=by
 have hsh:WShape.hasAll [] args [.list .int]=true:=(pre_splitW hpre).1
 have hc:l.pre.holds [] { args:=args }=true:=(pre_splitW hpre).2
 obtain ⟨d,r,rfl,h1,h2⟩:=hasAllW_cons hsh
 obtain rfl:=hasAllW_nil h2
 obtain ⟨xs,rfl,h3⟩:=hasW_list h1
 obtain ⟨ns,rfl⟩:=items_int h3
 have hlen:ns.length≤n:=by
  unfold OpenLaw.pre at hc
  have h4:(WTm.not (.lt (.lit (.int (n:Int))) (.len (.arg 0)))).holds [] { args:=[.list (ns.map .int)] }=true:=by
   have h4:=(holds_andW hc).1
   rw [hn] at h4
   exact h4
  have h5:=condW_of h4 (w_not (w_lt w_lit (w_len_list (w_arg rfl))))
  rw [ya] at h5
  refine Nat.le_of_not_lt fun q=>?_
  have q':(n:Int) < ((ns.length:Nat):Int):=by omega
  first
   | (rw [decide_eq_true q'] at h5;exact absurd h5 (by decide))
   | (simp at h5;omega)
 cases hwl with
 | cons w1 w2 =>
  cases w2
  cases w1 with
  | list ho hall=>exact ⟨_,_,ns,rfl,rfl,ho,ints_of_wellAll ns _ hall,hlen⟩
theorem post_true (l:OpenLaw) (args:List WData):l.row.toRowW.claim.post args (.bool true) args=true:=
 postW_of (r:=l.row.toRowW) (X:=(true==true))
  (show WShape.has [] (.bool true) .bool=true by first | rfl | decide | simp [WShape.has,WShape.arms,WShape.armsAll])
  (show (WTm.eq .res (.lit (.bool true))).value [] { args:=args,res:=some (.bool true),after:=args }=some (.bool (true==true)) from w_eq_bool (w_res rfl) w_lit) rfl
theorem attach_call {l:OpenLaw} {n:Nat} {q:Program} {loose:List Str} {XP:(Str→Option Value)→Heap→Prop} {YP:World→Heap→Prop} {d:DefRec}
  (hn:l.most=some n) (hdf:d.params.defaults=[])
  (call:∀ (w:World) (s₀ s₁:Shared) (mg mb:Str→Option Value) (fa:Addr) (o:Obj) (pm cd doc:Value) (a:Addr) (vs:List Value) (ns:List Int),
   Ground q loose [] XP w s₀ mg mb s₁.heap→YP w s₁.heap →
   s₁.heap.get? fa=some o→o.data=.func (docDef d.name d.params d.body d.scope pm cd doc)→s₁.heap.CodeRec cd d.name→mg d.name=some (.ref fa) →
   s₁.heap.get? a=some { cls:=.type "list",data:=.seq vs.toArray }→IntsAre vs ns→ns.length≤n→s₁.gens=#[] →
   codeAny (model l.prog w) callerA (.call (.ref fa) ⟨[.ref a],[]⟩) (fun r s'=>r=.ok (.ret (.bool true))∧OldK s₁.heap s'.heap∧s'.os=s₁.os∧AllBare s'.gens) s₁) :
  WalkO q loose XP YP l.row.toRowW d [] (fun f vs=>PySem.call f vs):=by
 intro w s₀ s₁ mg mb G Y fa o pm cd doc dV kV ho hd hcd hD hmg hg args vals as hpre hlay hrd hwl hlo
 obtain rfl:dV=.none:=Dflts.none hD hdf
 obtain rfl:kV=.none:=Dflts.noKw hD
 obtain ⟨a,vs,ns,rfl,rfl,hobj,hints,hlen⟩:=script_of hn hpre hwl
 refine enter_call (codeAny_mono (call w s₀ s₁ mg mb fa o pm cd doc a vs ns G Y ho (fd_plain hd) hcd hmg hobj hints hlen hg) fun r s' hq=>?_)
 obtain ⟨rfl,h2,h3,h4⟩:=hq
 exact ⟨.inl ⟨.bool true,.bool true,[],rfl,fun _=>rfl,.bool true,post_true l _,fun _=>⟨List.Pairwise.nil,fun _ hm=>(nomatch hm)⟩⟩,h2,h3,h4⟩
section
variable {prog:Program} {w:World} {A:Around} {E:Value→Shared→Prop} {s:Shared} {K:Frag}
def ledger (h:Heap) (L d:Addr):List (Addr×Obj):=(List.range h.objs.size).filterMap fun a=>if a=L∨a=d then none else (h.get? a).map fun o=>(a,o)
end
end Att
namespace L2
open PySem PySem.Spec PyProof.Rows
theorem qci:∀ {vs:List Value} {ns:List Int},IntsAre vs ns→Vals (ns.map V.int) vs
 | _,_,.nil=>.nil
 | _,_,.cons n t h=>.cons ⟨t,rfl⟩ (qci h)
def qgA (H:Hp):Prop:=∀ b,H b=none∨∃ o xs,H b=some (.frz o (.lst xs))
theorem law_call {P:Program} {w:World} {K:yg} {mg mb:Str→Option Value} {CX:CXT} {k:Nat} {fa a:Addr} {fd:FuncData} {x:Str} {sp:Sp} {s₁:Shared} {vs:List Value} {ns:List Int}
  (KX:K.In s₁.heap) (hns:s₁.heap.Ns mainGlobals mg) (hb:s₁.heap.Ns builtinsNs mb) (hbb:∀ x:Str,x≠"__name__"→mb x=bootBuiltins x) (hlim:s₁.heap.NoLimit) (hg:s₁.gens=#[])
  (ha:s₁.heap.get? a=some { cls:=.type "list",data:=.seq vs.toArray }) (hi:IntsAre vs ns) (hl:ns.length≤sizeLine) (hr:Room k callerA)
  (F:∀ base:Heap,K.In base→base.Ns mainGlobals mg→FnOk P w K mg base CX k fa fd [x] sp) (hbind:∀ (s:Shared) (u:Value),BindsTo s fd ⟨[u],[]⟩ [(x,u)])
  (hsp:∀ H:Hp,qgA H→SqL K H a (ns.map V.int)→sp [.ref a] H (fun v _=>v=.bl true) fun _ _ _=>False)
  (hCX:∀ H e s',CX [] H s₁ (fun _ _ _=>False) e s'→False) :
  codeAny (model P w) callerA (.call (.ref fa) ⟨[.ref a],[]⟩) (fun r s'=>r=.ok (.ret (.bool true))∧OldK s₁.heap s'.heap∧s'.os=s₁.os∧AllBare s'.gens) s₁:=by
 have rv:=qci hi
 have lenV:=hi.length
 have core:∀ H:Hp,qgA H→SqL K H a (ns.map V.int)→HOk P w H s₁.heap→(∀ b,H b≠none→b=a)→(H a≠none→K.lookup a=none) →
   codeAny (model P w) callerA (.call (.ref fa) ⟨[.ref a],[]⟩) (fun r s'=>r=.ok (.ret (.bool true))∧OldK s₁.heap s'.heap∧s'.os=s₁.os∧AllBare s'.gens) s₁:=by
  intro H hO hS hok hA hK
  have base_of:∀ {b:Addr} {o:Obj},s₁.heap.get? b=some o→H b=none→(qeu s₁.heap H).get? b=some o:=fun e n=>hidT_get e n
  have noA:∀ {b:Addr} {o:Obj} {es:Array DictEntry} {ep:Nat},s₁.heap.get? b=some o→o.data=.dict es ep→H b=none:=fun {b o es ep} e d=>by
   cases q:H b with
   | none=>rfl
   | some u =>
    have e':b=a:=hA b (by rw [q];simp)
    subst e'
    rw [ha] at e;cases e
    have d':Data.seq vs.toArray _=Data.dict es ep:=d
    cases d'
  have nsK:∀ {b:Addr} {m:Str→Option Value},s₁.heap.Ns b m→(qeu s₁.heap H).Ns b m:=fun {b m} ⟨o,es,ep,e,d,r⟩=>⟨o,es,ep,base_of e (noA e d),d,r⟩
  have hKb:K.In (qeu s₁.heap H):=fun b o e=>base_of (KX b o e) (by
   cases q:H b with
   | none=>rfl
   | some u =>
    have e':b=a:=hA b (by rw [q];simp)
    subst e'
    rw [hK (by rw [q];simp)] at e;cases e)
  have hM:Mod K mg (qeu s₁.heap H):=⟨hKb,nsK hns,⟨mb,nsK hb,hbb⟩,let ⟨mc,h1,h2⟩:=hlim;⟨mc,nsK h1,h2⟩⟩
  have e0:Env0 P w K mg (qeu s₁.heap H) callerA [] s₁ H:=⟨rfl,hM,fun b o e=>of_hidT e,Nat.le_of_eq (hidT_size _ _),trivial,fun b hb=>absurd (show b∈([]:List Addr) from hb) (by simp),hok,.of_eq hg⟩
  refine codeAny_mono ((F _ hKb (nsK hns)).run callerA [] s₁ H ⟨[.ref a],[]⟩ [.ref a] [.ref a] _ _ hr e0 (hbind s₁ (.ref a)) (.cons rfl .nil) (hsp H hO hS)) fun r s' h=>?_
  cases r with
  | error e=>exact (hCX H e s' h).elim
  | ok fl =>
   cases fl with
   | next=>exact False.elim h
   | brk=>exact False.elim h
   | cont=>exact False.elim h
   | ret u =>
    obtain ⟨v,H',os,bare,un,hok',r',q⟩:=h
    have q':v=.bl true:=q
    subst q'
    obtain rfl:u=Value.bool true:=r'
    refine ⟨rfl,OldK.of_keep fun b o e=>?_,os,bare⟩
    cases q:H b with
    | none=>exact un.keep b o e q (by intro z;exact absurd (show b∈([]:List Addr) from z) (by simp)) (by simp)
    | some u =>
     rcases hO b with z | ⟨ob,xs,z⟩
     ·rw [q] at z;cases z
     ·have z2:=un.frzs b ob _ z
      obtain ⟨e1,_⟩:=hok b _ z
      obtain ⟨e2,_⟩:=hok' b _ z2
      rw [e] at e1;cases e1
      exact e2
 cases hk:K.lookup a with
 | some o =>
  have e:=KX a o hk
  rw [ha] at e
  cases e
  refine core (fun _=>none) (fun _=>.inl rfl) (.inr ⟨_,vs.toArray,_,hk,rfl,rfl,rfl,by rw [List.size_toArray,lenV];exact hl,by simpa using rv⟩) (fun b u z=>by have z':(none:Option HO)=some u:=z;cases z') (fun b z=>absurd rfl z) fun z=>absurd rfl z
 | none =>
  refine core (fun b=>if b=a then some (.frz { cls:=.type "list",data:=.seq vs.toArray } (.lst (ns.map V.int))) else none) (fun b=>?_) (.inl (.inr ⟨{ cls:=.type "list",data:=.seq vs.toArray },if_pos rfl⟩)) (fun b u z=>?_) (fun b z=>?_) fun _=>hk
  ·by_cases hb:b=a
   ·exact .inr ⟨_,_,if_pos hb⟩
   ·exact .inl (if_neg hb)
  ·by_cases hb:b=a
   ·have z':=(if_pos hb).symm.trans z
    cases z'
    subst hb
    exact ⟨ha,by rw [ya];exact hl,vs,_,rv,ha⟩
   ·have z':=(if_neg hb).symm.trans z
    cases z'
  ·by_cases hb:b=a
   ·exact hb
   ·exact absurd (if_neg hb) z
abbrev KOf {K:yg} {h:Heap} (_:K.In h):yg:=K
theorem walk_of {l:PySem.W.OpenLaw} {n k:Nat} {q:Program} {loose:List Str} {XP:(Str→Option Value)→Heap→Prop} {YP:World→Heap→Prop} {d:DefRec} {K:Params→yg} {CX:World→CXT} {sp:World→Sp} {x:Str}
  (hn:l.most=some n) (hn2:n≤sizeLine) (hdf:d.params.defaults=[]) (hr:Room k callerA)
  (hY:∀ (w:World) (h:Heap),YP w h→(K w.params).In h)
  (F:∀ (w:World) (mg:Str→Option Value) (fa:Addr) (h:Heap),(K w.params).In h→h.Ns mainGlobals mg→mg d.name=some (.ref fa) →
   ∃ fd:FuncData,(∀ (s:Shared) (u:Value),BindsTo s fd ⟨[u],[]⟩ [(x,u)]) ∧
    ∀ base:Heap,(K w.params).In base→base.Ns mainGlobals mg→FnOk l.prog w (K w.params) mg base (CX w) k fa fd [x] (sp w))
  (hsp:∀ (w:World) (H:Hp) (a:Addr) (ns:List Int),ns.length≤n→qgA H→SqL (K w.params) H a (ns.map V.int)→sp w [.ref a] H (fun v _=>v=.bl true) fun _ _ _=>False)
  (hCX:∀ (w:World) (H:Hp) (s:Shared) (e:Value) (s':Shared),CX w [] H s (fun _ _ _=>False) e s'→False) :
  PySem.W.WalkO q loose XP YP l.row.toRowW d [] (fun f vs=>PySem.call f vs):=by
 refine Att.attach_call hn hdf fun w s₀ s₁ mg mb fa o pm cd doc a vs ns G Y ho hd hcd hmg hobj hints hlen hg=>?_
 have KX:=hY w _ Y
 obtain ⟨fd,hb,hF⟩:=F w mg fa _ KX G.T.g hmg
 exact law_call KX G.T.g G.T.b G.T.builtins G.T.nolimit hg hobj hints (yi hlen hn2) hr hF hb (fun H hO hS=>hsp w H a ns hlen hO hS) fun H e s'=>hCX w H s₁ e s'
def jo (s:Stmt) (j:Nat):Stmt:=match s with
 | .ClassDef _ _ _ body _ _ _ _ _ _ _=>body.getD j (.Pass ⟨0,0,0,0⟩)
 | _=>.Pass ⟨0,0,0,0⟩
def qo (s:Stmt):Arguments:=match s with
 | .FunctionDef _ a _ _ _ _ _ _ _ _=>a
 | _=>{ posonlyargs:=[],args:=[],vararg:=none,kwonlyargs:=[],kw_defaults:=[],kwarg:=none,defaults:=[] }
def qj (s:Stmt):List Stmt:=match s with
 | .FunctionDef _ _ b _ _ _ _ _ _ _=>b
 | _=>[]
def qe (s:Stmt):Scope:=match s with
 | .FunctionDef _ _ _ _ _ _ sc _ _ _=>sc
 | _=>{ kind:=.function,names:=[],isGenerator:=false,isCoroutine:=false }
abbrev CX0:CXT:=fun _ _ _ _ _ _=>False
abbrev E0:XK:=fun _ _ _=>False
theorem qz {X:Cx}:qad CX0 X E0:=fun _ _ _ _ _ _ _ h=>h.elim
structure Fun (K:yg) (x qual:Str) (st:Stmt) (f:Addr) (fd:FuncData):Prop where
 ex:∃ (oc:Value) (od:Option Addr) (kV doc pm:Value) (an:Option Addr) (cdv ct:Value) (osl:Array (Option Value)),
  fd=PySem.W.fnOf x qual (qo st) (qj st) (qe st) .none kV doc pm an cdv ct∧K.lookup f=some ⟨oc,od,.func fd,osl⟩∧PySem.W.codeIn K cdv qual=true
 kp:PySem.W.keepIn K (.ref f)=true
section
variable {P:Program} {w:World} {K:yg} {mg:Str→Option Value} {base:Heap}
theorem Fun.ok {x qual:Str} {st:Stmt} {f:Addr} {fd:FuncData} {N ps:List Str} {k:Nat} {sp:Sp} (F:Fun K x qual st f fd) (S:FnScope N ps (qe st)) (len:∀ vs H Q E,sp vs H Q E→vs.length=ps.length)
  (hbody:∀ (cdv:Value) (A:Around) (outer:List Env) (s:Shared) (H:Hp) (vs:List V) (Q:VK) (E:XK),Room k (A.deeper (envOfC qual (qe st) s.heap.objs.size f cdv))→sp vs H Q E →
   ∃ t,PSs (qdF CX0 P w K mg base N qual (qe st) f cdv A outer s H E).nox (qj st) t∧t { nx:=fun _ H'=>Q .non H',rt:=Q } (start N vs) H):FnOk P w K mg base CX0 (k + 1) f fd ps sp:=by
 obtain ⟨oc,od,kV,doc,pm,an,cdv,ct,osl,rfl,lk,hcd⟩:=F.ex
 refine qfQ lk hcd S len fun A outer s H vs Q E hr hsp=>?_
 obtain ⟨t,h,q⟩:=hbody cdv A outer s H vs Q E hr hsp
 exact ⟨t,h.nox,q⟩
theorem Fun.binds {x qual:Str} {st:Stmt} {f:Addr} {fd:FuncData} {ps:List Str} (F:Fun K x qual st f fd)
  (h:∀ (kV doc pm:Value) (an:Option Addr) (cdv ct:Value) (us:List Value),us.length=ps.length→bindArgs (PySem.W.fnOf x qual (qo st) (qj st) (qe st) .none kV doc pm an cdv ct) ⟨us,[]⟩=pure (ps.zip us)):Binds K fd ps []:=by
 obtain ⟨oc,od,kV,doc,pm,an,cdv,ct,osl,rfl,lk,hcd⟩:=F.ex
 exact .all (h kV doc pm an cdv ct)
theorem fun_mk {x qual:Str} {st:Stmt} {f:Addr} {oc:Value} {od an:Option Addr} {osl:Array (Option Value)} {kV doc pm cdv ct:Value} (l:K.lookup f=some ⟨oc,od,.func (PySem.W.fnOf x qual (qo st) (qj st) (qe st) .none kV doc pm an cdv ct),osl⟩)
  (c:PySem.W.codeIn K cdv qual=true) (k:PySem.W.keepIn K (.ref f)=true):Fun K x qual st f (PySem.W.fnOf x qual (qo st) (qj st) (qe st) .none kV doc pm an cdv ct):=⟨⟨oc,od,kV,doc,pm,an,cdv,ct,osl,rfl,l,c⟩,k⟩
end
theorem qk {n:Nat} (h:n≤1000):n < sizeLine:=Nat.lt_of_le_of_lt h (by decide)
section
variable {X:Cx}
theorem pv (i:Nat) {x:Str} {pos:Pos} (hN:X.N[i]?=some x:=by rfl) (hv:Vis X.env.scope x:=by first | exact Or.inl rfl | exact Or.inr (Or.inl rfl) | exact Or.inr (Or.inr rfl)) (hd:(x==("__debug__":Str))=false:=by decide)
  (hcd:(x==("__classdict__":Str))=false:=by decide):PE X (.Name x pos) (qfH i):=pe_var hN hv hd hcd
theorem call_lenD:zY X (.builtin "len") (fun xs H Q=>∃ a kvs,xs=[V.ref a]∧H a=some (.dK kvs)∧Q (.int kvs.length) H):=by
 intro pins s σ H xs us Q I r h
 obtain ⟨a,kvs,rfl,ha,q⟩:=h
 obtain ⟨u,rfl,ru⟩:=qbf r
 cases ru
 exact d_len I (.inl ha) fun t s' I'=>⟨.int kvs.length,H,I',⟨t,rfl⟩,q⟩
end
theorem j9 {A B:Prop} (h:A):if true=true then A else B:=by
 rw [if_pos rfl]
 exact h
theorem qI {c A B:Prop} [Decidable c] (h1:c→A) (h2:¬ c→B):if c then A else B:=by
 by_cases h:c
 ·rw [if_pos h]
  exact h1 h
 ·rw [if_neg h]
  exact h2 h
def Same (H H':Hp):Prop:=∀ b o,H b=some o→H' b=some o
theorem Same.refl (H:Hp):Same H H:=fun _ _ h=>h
theorem Same.trans {H H1 H2:Hp} (a:Same H H1) (b:Same H1 H2):Same H H2:=fun c o h=>b c o (a c o h)
theorem Same.free {H H':Hp} (e:Same H H') {l:Addr} (h:H' l=Option.none):H l=Option.none:=by
 cases q:H l with
 | none=>rfl
 | some o =>
  rw [e l o q] at h
  cases h
theorem Same.seq {K:yg} {H H':Hp} {a:Addr} {xs:List V} (e:Same H H') (h:SqL K H a xs):SqL K H' a xs:=by
 rcases h with (h | ⟨o,h⟩) | h
 ·exact .inl (.inl (e _ _ h))
 ·exact .inl (.inr ⟨o,e _ _ h⟩)
 ·exact .inr h
section
variable {κ:Type} [DecidableEq κ]
end
end L2
set_option maxHeartbeats 4000000
namespace L2
open PySem PySem.Spec PyProof.Rows
section
variable {prog:Program} {w:World} {A:Around} {R:Result→Shared→Prop} {s:Shared}
theorem compLoop_own {elt target iter:Expr} {ifs:List Expr} {scope:Scope} {pos:Pos} {it acc:Value} {env:Env} (I:Nat→Shared→Prop)
  (turn:∀ n s,I n s→wpAny (model prog w) A (pyNext it) (fun r s1=>match r with
   | none=>R (.ok .next) s1
   | some v=>wpAny (model prog w) A (letOwnedTupleGo target it v) (fun _ s1'=>wpAny (model prog w) A (assign target env v) (fun _ s2 =>
     wpAny (model prog w) A (forIn ifs true fun c r=>if r=true then do let ok ← isTrue c env (eval c env);pure (ForInStep.yield ok) else pure (ForInStep.yield r)) (fun ok s3 =>
      if ok=true then wpAny (model prog w) A (eval elt env) (fun x s4 =>
       wpAny (model prog w) A (call (.builtin "list.append") [acc,x]) (fun _ s5=>∃ m,m < n∧I m s5) (fun _ _=>False) s4) (fun _ _=>False) s3
      else ∃ m,m < n∧I m s3) (fun _ _=>False) s2) (fun _ _=>False) s1') (fun _ _=>False) s1) (fun _ _=>False) s)
  (n:Nat) (h:I n s) :
  codeAny (model prog w) A (.compLoop (.ListComp elt [⟨target,iter,ifs,0⟩] scope pos) 0 it acc env) R s:=by
 refine codeAny_loop rfl I (fun n s hI=>?_) n h
 show wpAny _ A ((compTurn (.ListComp elt [⟨target,iter,ifs,0⟩] scope pos) 0 it acc env).onRaise (fun x=>do noteFrame x env;theTreesLotGoes x)) _ _ s
 refine wpAny_noted ?_
 rw [compTurn_list]
 refine wpAny_bind (wpAny_standAt (wpAny_bind (wpAny_mono (turn n s hI) (fun r s1 h1=>?_) fun _ _ h'=>h'.elim)))
 cases r with
 | none=>exact wpAny_pure h1
 | some v =>
  refine wpAny_bind (wpAny_mono h1 (fun _ s1' h1'=>?_) fun _ _ h'=>h'.elim)
  refine wpAny_bind (wpAny_mono h1' (fun _ s2 h2=>wpAny_bind (wpAny_mono h2 (fun ok s3 h3=>?_) fun _ _ h'=>h'.elim)) fun _ _ h'=>h'.elim)
  cases ok with
  | false=>exact wpAny_pure ⟨rfl,h3⟩
  | true =>
   exact wpAny_bind (wpAny_bind (wpAny_mono h3 (fun x s4 h4=>wpAny_bind (wpAny_mono h4 (fun _ s5 h5=>wpAny_pure (wpAny_pure ⟨rfl,h5⟩)) fun _ _ h'=>h'.elim)) fun _ _ h'=>h'.elim))
end
def qQ (env:Env):List (Str×NameKind)→List (Str×Addr)→List (Str×Addr)
 | [],acc=>acc
 | (n,k)::r,acc=>qQ env r (if (k==.free)=true then (n,(env.cells.lookup n).getD 0)::acc else acc)
theorem zM {env:Env}:∀ {names:List (Str×NameKind)} {acc:List (Str×Addr)} {x:Str} {c:Addr},(qQ env names acc).lookup x=some c →
  ((x,NameKind.free)∈names∧c=(env.cells.lookup x).getD 0)∨acc.lookup x=some c
 | [],_,_,_,h=>.inr h
 | (n,k)::r,acc,x,c,h=>by
  unfold qQ at h
  rcases zM h with ⟨h1,h2⟩ | h1
  ·exact .inl ⟨List.mem_cons_of_mem _ h1,h2⟩
  ·by_cases hk:(k==NameKind.free)=true
   ·rw [if_pos hk,List.lookup_cons] at h1
    cases hx:x==n with
    | true =>
     rw [hx] at h1
     have e:x=n:=beq_iff_eq.mp hx
     have e2:k=.free:=beq_iff_eq.mp hk
     subst e e2
     exact .inl ⟨List.mem_cons_self,(ym h1).symm⟩
    | false =>
     rw [hx] at h1
     exact .inr h1
   ·rw [if_neg hk] at h1
    exact .inr h1
theorem qaG {env:Env}:∀ {names:List (Str×NameKind)} {acc:List (Str×Addr)} {x:Str},(∃ c,acc.lookup x=some c)→∃ c,(qQ env names acc).lookup x=some c
 | [],_,_,h=>h
 | (n,k)::r,acc,x,h=>by
  unfold qQ
  apply qaG
  by_cases hk:(k==NameKind.free)=true
  ·rw [if_pos hk,List.lookup_cons]
   cases hx:x==n with
   | true=>exact ⟨_,rfl⟩
   | false=>exact h
  ·rw [if_neg hk]
   exact h
theorem zN {env:Env}:∀ {names:List (Str×NameKind)} {acc:List (Str×Addr)} {x:Str},(x,NameKind.free)∈names→∃ c,(qQ env names acc).lookup x=some c
 | [],_,_,h=>by cases h
 | (n,k)::r,acc,x,h=>by
  unfold qQ
  rcases List.mem_cons.mp h with e | e
  ·cases e
   apply qaG
   rw [show (NameKind.free==NameKind.free)=true from rfl,if_pos rfl,List.lookup_cons,beq_self_eq_true]
   exact ⟨_,rfl⟩
  ·exact zN e
theorem qaH {scope:Scope} {env:Env} (h:∀ n,(n,NameKind.free)∈scope.names→∃ c,env.cells.lookup n=some c):closureFor scope env=pure (qQ env scope.names []):=by
 have key:∀ (names:List (Str×NameKind)) (acc:List (Str×Addr)),(∀ n,(n,NameKind.free)∈names→∃ c,env.cells.lookup n=some c) →
   (forIn names acc (fun (x:Str×NameKind) (r:List (Str×Addr))=>(if (x.2==NameKind.free)=true then (cellOf env x.1>>=fun c=>pure (ForInStep.yield ((x.1,c)::r))) else pure (ForInStep.yield r):Sem (ForInStep (List (Str×Addr))))))=(pure (qQ env names acc):Sem (List (Str×Addr))):=by
  intro names
  induction names with
  | nil=>intro acc _;rfl
  | cons x r ih =>
   intro acc hn
   obtain ⟨n,k⟩:=x
   rw [List.forIn_cons]
   unfold qQ
   by_cases hk:(k==NameKind.free)=true
   ·have e2:k=.free:=beq_iff_eq.mp hk
    subst e2
    obtain ⟨c,hc⟩:=hn n List.mem_cons_self
    have e3:cellOf env n=pure c:=by unfold cellOf;rw [hc]
    simp only [hk,if_true,e3,hc,Option.getD_some]
    exact ih _ fun m hm=>hn m (List.mem_cons_of_mem _ hm)
   ·simp only [hk,if_false]
    exact ih _ fun m hm=>hn m (List.mem_cons_of_mem _ hm)
 have e:=key scope.names [] h
 unfold closureFor
 exact Eq.trans (congrArg (fun m=>m>>=pure) e) rfl
@[reducible] def Cx.comp (X:Cx) (N:List Str) (scope:Scope) (C:Addr) (s0:Shared) (H0:Hp) (ex:List Addr):Cx where
 prog:=X.prog
 w:=X.w
 K:=X.K
 mg:=X.mg
 base:=X.base
 A:=X.A
 N:=N
 s₀:=s0
 H₀:=H0
 env:=compEnvC scope (qQ X.env scope.names []) C X.env
 outer:=X.stack
 stack:=X.stack
 ex:=ex
 fn:=fun _=>false
 calm:=X.calm
 pn:=[]
 xe:=fun _ _=>False
structure CompOk (sc scope:Scope):Prop where
 kind:scope.kind=.function
 nocell:∀ y∈scope.names,y.2≠.cell
 loc:∀ y∈scope.names,y.2=.local→scope.names.lookup y.1=some .local
 free:∀ y∈scope.names,y.2=.free→sc.names.lookup y.1=some .cell∨sc.names.lookup y.1=some .free
 once:∀ y∈scope.names,y.2=.free→scope.names.lookup y.1=some .free
def qey (sc scope:Scope):Bool:=decide (scope.kind=.function)&&scope.names.all fun y=>match y.2 with
 | .local=>scope.names.lookup y.1==some .local
 | .free=>(sc.names.lookup y.1==some .cell||sc.names.lookup y.1==some .free)&&scope.names.lookup y.1==some .free
 | .cell=>false
 | _=>true
theorem qc5 {sc scope:Scope} (h:qey sc scope=true):CompOk sc scope:=by
 unfold qey at h
 rw [Bool.and_eq_true] at h
 have ha:=List.all_eq_true.mp h.2
 refine ⟨yk h.1,fun y hy e=>?_,fun y hy e=>?_,fun y hy e=>?_,fun y hy e=>?_⟩
 ·have:=ha y hy
  rw [e] at this
  cases this
 ·have:=ha y hy
  rw [e] at this
  exact beq_iff_eq.mp this
 ·have:=ha y hy
  rw [e,Bool.and_eq_true,Bool.or_eq_true] at this
  exact this.1.imp beq_iff_eq.mp beq_iff_eq.mp
 ·have:=ha y hy
  rw [e,Bool.and_eq_true] at this
  exact beq_iff_eq.mp this.2
def qgB (nl:Nat) (ixs:List Nat) (N XN:List Str) (names:List (Str×NameKind)):Bool:=(List.range ixs.length).all fun k=>match ixs[k]?,N[nl + k]? with
 | some j,some x=>XN[j]?==some x&&names.any fun y=>y.1==x&&y.2==.free
 | _,_=>true
theorem qdV {nl:Nat} {ixs:List Nat} {N XN:List Str} {names:List (Str×NameKind)} (h:qgB nl ixs N XN names=true) (k j:Nat) (x:Str) (h1:ixs[k]?=some j) (h2:N[nl + k]?=some x):XN[j]?=some x∧(x,NameKind.free)∈names:=by
 have hk:k < ixs.length:=(yc.mp h1).1
 have:=List.all_eq_true.mp h k (List.mem_range.mpr hk)
 rw [h1,h2] at this
 simp only [Bool.and_eq_true] at this
 refine ⟨beq_iff_eq.mp this.1,?_⟩
 obtain ⟨⟨n,kd⟩,hy,e⟩:=List.any_eq_true.mp this.2
 rw [Bool.and_eq_true] at e
 have e1:n=x:=beq_iff_eq.mp e.1
 have e2:kd=.free:=beq_iff_eq.mp e.2
 subst e1 e2
 exact hy
def qdM (nl:Nat) (ixs:List Nat) (σ:St):St:=List.replicate nl none++ixs.map fun j=>(σ[j]?).getD none
theorem capS_len (nl:Nat) (ixs:List Nat) (σ:St):(qdM nl ixs σ).length=nl + ixs.length:=by
 unfold qdM;rw [List.length_append,List.length_replicate,ya]
theorem qc6 {nl:Nat} {ixs:List Nat} {σ:St} {i:Nat} {v:V} (h:(qdM nl ixs σ)[i]?=some (some v)):nl≤i∧∃ j,ixs[i - nl]?=some j∧σ[j]?=some (some v):=by
 unfold qdM at h
 by_cases hi:i < nl
 ·rw [List.getElem?_append_left (by rw [List.length_replicate];exact hi),List.getElem?_replicate] at h
  split at h<;>cases h
 ·rw [List.getElem?_append_right (by rw [List.length_replicate];omega),List.length_replicate,yd] at h
  refine ⟨by omega,?_⟩
  cases e:ixs[i - nl]? with
  | none=>rw [e] at h;cases h
  | some j =>
   rw [e] at h
   have h':(σ[j]?).getD none=some v:=ym h
   cases q:σ[j]? with
   | none=>rw [q] at h';cases h'
   | some u =>
    rw [q] at h'
    exact ⟨j,rfl,by rw [q];exact congrArg some h'⟩
def qez (env:Env) (y:Str×NameKind):Str×NameKind:=if (y.2==NameKind.free&&env.scope.kind==.function&&env.kindOf y.1==some .cell)=true then (y.1,NameKind.cell) else (y.1,y.2)
theorem relF_fst (env:Env) (y:Str×NameKind):(qez env y).1=y.1:=by unfold qez;split<;>rfl
theorem relF_snd (env:Env) (y:Str×NameKind):(qez env y).2=y.2∨((qez env y).2=.cell∧y.2=.free):=by
 unfold qez
 split
 ·rename_i h
  rw [Bool.and_eq_true,Bool.and_eq_true] at h
  exact .inr ⟨rfl,beq_iff_eq.mp h.1.1⟩
 ·exact .inl rfl
theorem zu {env:Env}:∀ {names:List (Str×NameKind)} {x:Str} {k:NameKind},(names.map (qez env)).lookup x=some k→∃ k0,names.lookup x=some k0∧(x,k0)∈names∧(k=k0∨(k=.cell∧k0=.free))
 | [],_,_,h=>by cases h
 | (n,k1)::r,x,k,h=>by
  rw [List.map_cons,show qez env (n,k1)=((qez env (n,k1)).1,(qez env (n,k1)).2) from rfl,List.lookup_cons,relF_fst] at h
  rw [List.lookup_cons]
  cases hx:x==n with
  | true =>
   have e:x=n:=beq_iff_eq.mp hx
   subst e
   have hx':(x==(x,k1).1)=true:=hx
   rw [hx'] at h
   have h':=ym h
   refine ⟨k1,rfl,List.mem_cons_self,?_⟩
   rcases relF_snd env (x,k1) with z | ⟨z1,z2⟩
   ·exact .inl (h'.symm.trans z)
   ·exact .inr ⟨h'.symm.trans z1,z2⟩
  | false =>
   have hx':(x==(n,k1).1)=false:=hx
   rw [hx'] at h
   obtain ⟨k0,e1,e2,e3⟩:=zu h
   exact ⟨k0,e1,List.mem_cons_of_mem _ e2,e3⟩
section
variable {X:Cx} {pins:List (Addr×Obj)} {σ:St} {H:Hp} {s:Shared}
theorem comp_free_of {scope:Scope} {x:Str} (O:CompOk X.env.scope scope) {C:Addr} {cl:List (Str×Addr)} (h:(compEnvC scope cl C X.env).kindOf x=some .cell∨(compEnvC scope cl C X.env).kindOf x=some .free):(x,NameKind.free)∈scope.names:=by
 rcases h with h | h
 ·obtain ⟨k0,_,hm,e | ⟨_,e⟩⟩:=zu (env:=X.env) (names:=scope.names) h
  ·exact absurd e.symm (O.nocell _ hm)
  ·rw [e] at hm
   exact hm
 ·obtain ⟨k0,_,hm,e | ⟨e,_⟩⟩:=zu (env:=X.env) (names:=scope.names) h
  ·rw [← e] at hm
   exact hm
  ·cases e
theorem Inv.comp {N:List Str} {scope:Scope} {nl:Nat} {ixs:List Nat} {C D:Addr} {fp:List Addr} {ob:Obj} {h1:Heap} {tk:Nat} (I:Inv X pins σ H s) (O:CompOk X.env.scope scope)
  (hN:N.length=nl + ixs.length) (hcap:∀ (k j:Nat) (x:Str),ixs[k]?=some j→N[nl + k]?=some x→X.N[j]?=some x∧(x,NameKind.free)∈scope.names)
  (hf:∀ b∈fp,qcC X pins H b) (hfl:∀ b∈fp,b < s.heap.objs.size) (hC:s.heap.objs.size≤C) (hD:s.heap.objs.size≤D) (hDC:D≠C) (hns:h1.Ns C fun _=>none) (k:∀ b o,s.heap.get? b=some o→h1.get? b=some o)
  (hob:h1.get? D=some ob) (hcl:∀ v,ob.data≠.cell v):Inv (X.comp N scope C s H fp) [(D,ob)] (qdM nl ixs σ) H { s with heap:=h1,toks:=tk }:=by
 have cells:∀ x c,(qQ X.env scope.names []).lookup x=some c→X.env.cells.lookup x=some c∧(x,NameKind.free)∈scope.names:=fun x c h=>by
  rcases zM h with ⟨h1,h2⟩ | h1
  ·obtain ⟨c',hc'⟩:=I.ok.has x (by
    rcases O.free _ h1 rfl with z | z
    ·exact .inl z
    ·exact .inr z)
   rw [hc'] at h2
   exact ⟨by rw [hc',h2];rfl,h1⟩
  ·cases h1
 refine ⟨⟨I.ok.mod,O.kind,I.ok.glob,I.ok.blt,hC,fun x y c h1 h2=>I.ok.inj x y c (cells x c h1).1 (cells y c h2).1,fun x hx=>zN (comp_free_of O hx),fun x c z _=>(by cases z),I.ok.hd,I.ok.frames,.inl rfl,
   fun b hb=>⟨Nat.ne_of_lt (yj (hfl b hb) hC),fun x c e=>(hf b hb).2.2.2.2.1 x c (cells x c e).1⟩,I.bs,yi I.ok.bsz I.sz,fun b o e hb=>?_,fun b hb z=>?_,I.stack,I.stkFree⟩,
  rfl,I.bare,Un.kept k,⟨_,hns,fun i x v e1 e2 e3=>?_⟩,fun x c e=>?_,I.hok.fresh hC,fun x c e=>I.freeC x c (cells x c e).1,fun p hp=>?_,I.hok.kept k,?_⟩
 ·rcases (hf b hb).2.2.2.1 with z | z
  ·exact I.ok.noex b o e z
  ·have:=(I.ok.bs b o e).1
   exact absurd (yj (Heap.lt_size this) z) (Nat.lt_irrefl _)
 ·rcases List.mem_cons.mp (I.stkSub b z) with e | e
  ·exact (hf b hb).2.1 e
  ·exact (hf b hb).2.2.1 e
 ·obtain ⟨hi,j,hj,hv⟩:=qc6 e2
  obtain ⟨hx,hfr⟩:=hcap (i - nl) j x hj (by rw [Nat.add_sub_cancel' hi];exact e1)
  obtain ⟨m,hn,hl⟩:=I.loc
  have hk:=O.free _ hfr rfl
  obtain ⟨u,ru,lk⟩:=hl j x v hx hv (by
   rcases hk with z | z
   ·exact .inr (.inl z)
   ·exact .inr (.inr z))
  refine ⟨u,ru,?_⟩
  rcases lk with ⟨hk2,_⟩ | ⟨_,c,hc,hcell⟩
  ·have hk2':X.env.scope.names.lookup x=some .local:=hk2
   rcases hk with z | z<;>· rw [z] at hk2';cases hk2'
  ·obtain ⟨c',hc'⟩:=zN (env:=X.env) (acc:=[]) hfr
   have e:c'=c:=by
    have:=(cells x c' hc').1
    rw [hc] at this
    exact (ym this).symm
   subst e
   refine .inr ⟨?_,c',hc',?_⟩
   ·rcases e3 with z | z | z
    ·obtain ⟨k0,z3,_,e | ⟨e,_⟩⟩:=zu (env:=X.env) (names:=scope.names) z
     ·rw [O.once _ hfr rfl] at z3
      cases z3
      cases e
     ·cases e
    ·exact .inl z
    ·exact .inr z
   ·obtain ⟨o,ho,hd⟩:=hcell
    exact ⟨o,k _ _ ho,hd⟩
 ·obtain ⟨v,o,ho,hd⟩:=I.cell x c (cells x c e).1
  exact ⟨v,o,k _ _ ho,hd⟩
 ·have e:p=(D,ob):=by simpa using hp
  subst e
  refine ⟨hob,I.hok.fresh hD,hDC,fun z=>?_,hcl⟩
  rcases List.mem_cons.mp (I.stkSub D z) with e | e
  ·exact absurd (show X.env.locals < D from yj I.lt hD) (by rw [e];exact Nat.lt_irrefl _)
  ·exact I.nofs hD e
 ·show (qdM nl ixs σ).length=N.length
  rw [capS_len,hN]
theorem Inv.compBack {N:List Str} {scope:Scope} {C D:Addr} {fp:List Addr} {its:List Value} {n:Nat} {s':Shared} {H':Hp} {σ':St} {ys:List V} (I:Inv X pins σ H s) (hf:∀ b∈fp,qcC X pins H b) (hC:s.heap.objs.size≤C) (hD:s.heap.objs.size≤D)
  (J:Inv (X.comp N scope C s H fp) [(D,{ cls:=.type "list",data:=.seq its.toArray n })] σ' H' s') (hv:Vals ys its) (hz:ys.length≤sizeLine):Inv X pins σ (upd H' D (.lst ys)) s':=by
 obtain ⟨pD,nD,neD,_,_⟩:=J.pin (D,{ cls:=.type "list",data:=.seq its.toArray n }) (List.mem_append_right _ (List.mem_singleton.mpr rfl))
 have ltD:∀ b o,s.heap.get? b=some o→b≠D:=fun b o e=>Nat.ne_of_lt (yj (Heap.lt_size e) hD)
 have J0:=J.base
 refine I.call' (ch:=fp) J.os ⟨J0.keep,J0.slot,fun b o e n hx=>?_,J0.there,fun b xs e=>?_,fun b o u e=>?_,fun b ps e=>?_⟩ (fun b u e=>?_) J.bare fun b hb=>⟨(hf b hb).2.2.2.1,(hf b hb).2.1,(hf b hb).2.2.2.2.1,(hf b hb).2.2.2.2.2⟩
 ·rw [qh (ltD b o e)]
  exact J0.free b o e n hx
 ·have q:=J0.tups b xs e
  rw [qh (qE q nD)]
  exact q
 ·have q:=J0.frzs b o u e
  rw [qh (qE q nD)]
  exact q
 ·obtain ⟨more,q⟩:=J0.tbls b ps e
  exact ⟨more,by rw [qh (qE q nD)];exact q⟩
 ·by_cases hb:b=D
  ·subst hb
   rw [qc] at e
   cases e
   exact ⟨hz,its,n,hv,pD⟩
  ·rw [qh hb] at e
   exact (J.hok b u e).stay (fun c v _ q=>q) (fun c q=>by rw [qh (qE q nD)];exact q) fun c xs q=>by rw [qh (qE q nD)];exact q
end
def qgC:TT:=fun _ H Q=>Q true H
def qfr (wi:TI) (g:TG) (tc:TT) (te:TE) (nl:Nat) (ixs:List Nat):TE:=fun σ H Q=>wi σ H fun J H1 =>
 ∃ W:Nat→Nat→List V→Hp→Prop,(∃ m,W 0 m [] H1)∧∀ i m ys H,W i m ys H →
  (J.stop i H∧ys.length≤sizeLine∧∀ p,H p=none→Q (.ref p) (upd H p (.lst ys))) ∨
  (J.go i H∧∃ M:List V→Hp→Prop,(∀ ys' H',M ys' H'→∃ m',m' < m∧W (i + 1) m' ys' H')∧∀ x H',J.yld i H x H'→g x (qdM nl ixs σ) H' fun σ2 H2=>tc σ2 H2 fun b H3 =>
   if b=true then te σ2 H3 fun v H4=>ys.length < sizeLine∧M (ys++[v]) H4 else M ys H3)
def qdW (nl:Nat) (g:TG):Prop:=∀ x σ H Q,g x σ H Q→g x σ H fun σ2 H2=>Q σ2 H2∧σ2.length=σ.length∧∀ i,nl≤i→σ2[i]?=σ[i]?
theorem zO {nl i:Nat} (h:i < nl:=by decide):qdW nl (qbv i):=fun x σ H Q q=>⟨q,List.length_set ..,fun j hj=>List.getElem?_set_ne (by omega)⟩
def qfV (X:Cx) (ifs:List Expr) (tc:TT):Prop:=
 ∀ (pins:List (Addr×Obj)) (s:Shared) (σ:St) (H:Hp) (Q:Bool→Hp→Prop),Inv X pins σ H s→tc σ H Q →
  wpAny (model X.prog X.w) X.A (forIn ifs true fun c r=>if r=true then do let ok ← isTrue c X.env (eval c X.env);pure (ForInStep.yield ok) else pure (ForInStep.yield r)) (TP X pins σ Q) X.xe s
theorem zP {X:Cx}:qfV X [] qgC:=fun pins s σ H Q I h=>wpAny_tests_nil ⟨H,I,h⟩
theorem qbN {X:Cx} {c:Expr} {tc:TT} (h:PT X c tc):qfV X [c] tc:=fun pins s σ H Q I q=>wpAny_tests_one (h pins s σ H Q I q)
section
variable {X:Cx} {pins:List (Addr×Obj)} {σ:St} {H:Hp} {s:Shared}
theorem qbB {N:List Str} {scope:Scope} {nl:Nat} {ixs:List Nat} {fp:List Addr} {it:Addr} {tn:Nat→Heap→Prop} {J:It} {tg elt iter:Expr} {ifs:List Expr} {pos:Pos} {g:TG} {tc:TT} {te:TE} {Q:V→Hp→Prop} {E:Value→Shared→Prop}
  {RR:Value→Addr→Result→Shared→Prop} (I:Inv X pins σ H s) (hc:X.calm=true) (O:CompOk X.env.scope scope)
  (hN:N.length=nl + ixs.length) (hcap:∀ (k j:Nat) (x:Str),ixs[k]?=some j→N[nl + k]?=some x→X.N[j]?=some x∧(x,NameKind.free)∈scope.names)
  (T:Turn X.prog X.w X.K tg J fp it tn) (st:tn 0 s.heap) (hf:∀ b∈fp,qcC X pins H b)
  (hg:∀ C s0 H0 ex,PG (X.comp N scope C s0 H0 ex) tg g) (gk:qdW nl g) (hi:∀ C s0 H0 ex,qfV (X.comp N scope C s0 H0 ex) ifs tc) (he:∀ C s0 H0 ex,PE (X.comp N scope C s0 H0 ex) elt te)
  (h:∃ W:Nat→Nat→List V→Hp→Prop,(∃ m,W 0 m [] H)∧∀ i m ys H,W i m ys H →
   (J.stop i H∧ys.length≤sizeLine∧∀ p,H p=none→Q (.ref p) (upd H p (.lst ys))) ∨
   (J.go i H∧∃ M:List V→Hp→Prop,(∀ ys' H',M ys' H'→∃ m',m' < m∧W (i + 1) m' ys' H')∧∀ x H',J.yld i H x H'→g x (qdM nl ixs σ) H' fun σ2 H2=>tc σ2 H2 fun b H3 =>
    if b=true then te σ2 H3 fun v H4=>ys.length < sizeLine∧M (ys++[v]) H4 else M ys H3))
  (hRR:∀ (D C:Addr) (s':Shared) (H':Hp) (σ':St) (ys:List V) (its:List Value) (n:Nat),s.heap.objs.size≤C→s.heap.objs.size≤D→Inv (X.comp N scope C s H fp) [(D,{ cls:=.type "list",data:=.seq its.toArray n })] σ' H' s'→Vals ys its→ys.length≤sizeLine →
   (∀ p,H' p=none→Q (.ref p) (upd H' p (.lst ys)))→RR (.ref D) C (.ok .next) s') :
  wpAny (model X.prog X.w) X.A (newList []) (fun acc s3=>wpAny (model X.prog X.w) X.A (newFunctionEnv scope X.env.globals (qQ X.env scope.names []) [] X.env.qual none .none (some X.env)) (fun cenv s4 =>
   codeAny (model X.prog X.w) X.A (.compStart (.ListComp elt [⟨tg,iter,ifs,0⟩] scope pos) 0 (.ref it) acc { cenv with scope:=relabel scope X.env }) (RR acc cenv.locals) s4) E s3) E s:=by
 obtain ⟨W,⟨m0,w0⟩,turn⟩:=h
 refine wpAny_newObj_type (wpAny_newFunctionEnv O.nocell (by intro y hy;simp at hy) (fun h1 hns1 hsb1=>?_) O.kind)
 dsimp only at hns1 hsb1 ⊢
 generalize hH2:s.heap.push { cls:=.type "list",dict:=none,data:=.seq ([]:List Value).toArray }=H2 at hns1 hsb1 ⊢
 have hC:H2.objs.size=s.heap.objs.size + 1:=by rw [← hH2,Heap.size_push]
 have hDC:s.heap.objs.size≠H2.objs.size:=by rw [hC];exact Nat.ne_of_lt (Nat.lt_succ_self _)
 have hCle:s.heap.objs.size≤H2.objs.size:=by rw [hC];exact Nat.le_succ _
 have below:∀ b,b < s.heap.objs.size→b≠H2.objs.size∧b≠s.heap.objs.size:=fun b hb=>⟨by rw [hC];exact Nat.ne_of_lt (Nat.lt_succ_of_lt hb),Nat.ne_of_lt hb⟩
 have old:∀ b o,s.heap.get? b=some o→h1.get? b=some o:=fun b o e=>hsb1.extBut b o (below b (Heap.lt_size e)).1 (Heap.get?_push_of_some _ (hH2 ▸ Heap.get?_push_of_some _ e))
 have hacc:h1.get? s.heap.objs.size=some { cls:=.type "list",data:=.seq ([]:List Value).toArray }:=hsb1.extBut _ _ hDC (Heap.get?_push_of_some _ (hH2 ▸ Heap.get?_push_size _ rfl))
 have hfl:∀ b∈fp,b < s.heap.objs.size:=fun b hb=>by
  obtain ⟨o,ho,_⟩:=T.obj 0 _ st b hb
  exact Heap.lt_size ho
 have loop:∀ s3:Shared,s3={ s with heap:=h1,toks:=s.toks + ([]:List (Str×Value)).length } →
   codeAny (model X.prog X.w) X.A (.compLoop (.ListComp elt [⟨tg,iter,ifs,0⟩] scope pos) 0 (.ref it) (.ref s.heap.objs.size) (compEnvC scope (qQ X.env scope.names []) H2.objs.size X.env)) (RR (.ref s.heap.objs.size) H2.objs.size) s3:=by
  rintro s3 rfl
  have I0:=I.comp (N:=N) (C:=H2.objs.size) (D:=s.heap.objs.size) (h1:=h1) (tk:=s.toks + ([]:List (Str×Value)).length) O hN hcap hf hfl hCle (yh _) hDC hns1 old hacc (fun v z=>by cases z)
  have stat:∀ {H':Hp} {σ':St} {s':Shared} {pl:List (Addr×Obj)},Inv (X.comp N scope H2.objs.size s H fp) pl σ' H' s'→(∀ p∈pl,p.1=s.heap.objs.size)→(∀ b∈fp,H' b=none)→∀ b∈fp,qcC (X.comp N scope H2.objs.size s H fp) pl H' b:=fun {H' σ' s' pl} J hpl hn b hb =>
   ⟨hn b hb,(below b (hfl b hb)).1,fun z=>(by
     rcases List.mem_cons.mp (I.stkSub b z) with e | e
     ·exact (hf b hb).2.1 e
     ·exact (hf b hb).2.2.1 e),.inl hb,J.ok.exf b hb |>.2,fun p hp z=>by
    have e:=hpl p (by simpa using hp)
    rw [e] at z
    exact (below b (hfl b hb)).2 z.symm⟩
  refine compLoop_own (fun k s'=>∃ i H' ys its n,Inv (X.comp N scope H2.objs.size s H fp) [(s.heap.objs.size,{ cls:=.type "list",data:=.seq its.toArray n })] (qdM nl ixs σ) H' s'∧tn i s'.heap∧(∀ b∈fp,H' b=none)∧Vals ys its∧W i k ys H') ?_ m0
   ⟨0,H,[],[],0,I0,T.keep _ _ _ st fun b _ o e=>old b o e,fun b hb=>(hf b hb).1,.nil,w0⟩
  rintro k s' ⟨i,H',ys,its,n,J1,st1,fr1,v1,w1⟩
  have one:∀ p∈[((s.heap.objs.size,{ cls:=.type "list",data:=.seq its.toArray n }):Addr×Obj)],p.1=s.heap.objs.size:=fun p hp=>by
   have e:p=_:=List.mem_singleton.mp hp
   rw [e]
  rcases turn i k ys H' w1 with ⟨stop,hz,q⟩ | ⟨go,M,hM,step⟩
  ·refine thn (T.done (X.comp N scope H2.objs.size s H fp) rfl rfl rfl hc i _ s' _ H' _ J1 (stat J1 one fr1) st1 stop) fun r s4 ⟨hr,J4⟩=>?_
   subst hr
   exact hRR _ _ s4 H' _ ys its n hCle (yh _) J4 v1 hz q
  ·refine thn (T.item (X.comp N scope H2.objs.size s H fp) rfl rfl rfl hc i _ s' _ H' _ J1 (stat J1 one fr1) st1 go) fun r s4 ⟨u,hr,h4⟩=>?_
   subst hr
   refine thn h4 fun _ s5 ⟨x,H5,J5,r5,y5,st5,fr5⟩=>?_
   have J5':=J5.pinned (stat J5 one fr5) (T.obj _ _ st5)
   refine thn (hg _ _ _ _ _ s5 _ H5 x u _ J5' r5 (gk _ _ _ _ (step x H5 y5))) fun _ s6 ⟨σ6,H6,J6,q6,l6,k6⟩=>?_
   refine thn (hi _ _ _ _ _ s6 σ6 H6 _ J6 q6) fun ok s7 ⟨H7,J7,q7⟩=>?_
   have again:∀ {s8:Shared} {H8:Hp} {ys':List V} {k':Nat},Inv (X.comp N scope H2.objs.size s H fp) ([((s.heap.objs.size,{ cls:=.type "list",data:=.seq its.toArray n }):Addr×Obj)]++qb4 fp s5.heap) σ6 H8 s8 →
     (∀ b o,b≠s.heap.objs.size→s8.heap.get? b=some o→s8.heap.get? b=some o)→tn (i + 1) s8.heap∧∀ b∈fp,H8 b=none:=fun {s8 H8 ys' k'} J8 _=>by
    refine ⟨T.keep _ _ _ st5 fun b hb o e=>(J8.pin (b,o) (List.mem_append_right _ (List.mem_append_right _ (qam hb e)))).1,fun b hb=>?_⟩
    obtain ⟨o,e,d⟩:=T.obj _ _ st5 b hb
    exact (J8.pin (b,o) (List.mem_append_right _ (List.mem_append_right _ (qam hb e)))).2.1
   have wk:∀ (j:Nat) v,(qdM nl ixs σ)[j]?=some (some v)→σ6[j]?=some (some v):=fun j v e=>by
    obtain ⟨hj,_⟩:=qc6 e
    rw [k6 j hj]
    exact e
   cases ok with
   | false =>
    rw [if_neg Bool.false_ne_true] at q7 ⊢
    obtain ⟨m',hm,w7⟩:=hM _ _ q7
    obtain ⟨st7,fr7⟩:=again (ys':=ys) (k':=0) J7 (fun _ _ _ e=>e)
    exact ⟨m',hm,i + 1,H7,ys,its,n,J7.unpinned.weak l6.symm wk,st7,fr7,v1,w7⟩
   | true =>
    rw [if_pos rfl] at q7 ⊢
    refine thn (he _ _ _ _ _ s7 σ6 H7 _ J7 q7) fun y s8 ⟨v,H8,J8,r8,hlt,mq⟩=>?_
    obtain ⟨m',hm,w8⟩:=hM _ _ mq
    obtain ⟨st8,fr8⟩:=again (ys':=ys) (k':=0) J8 (fun _ _ _ e=>e)
    have J9:=J8.unpinned
    obtain ⟨pD,nD,neD,nfD,_⟩:=J9.pin (s.heap.objs.size,{ cls:=.type "list",data:=.seq its.toArray n }) (List.mem_append_right _ (List.mem_singleton.mpr rfl))
    refine wpAny_list_append_plain (hsz:=by rw [List.size_toArray,← v1.length];omega) ⟨n,pD⟩ fun h9 hl9 hs9=>?_
    obtain ⟨n9,hl9⟩:=hl9
    have e9:(its.toArray.push y)=(its++[y]).toArray:=by simp
    rw [e9] at hl9
    have Ja:Inv (X.comp N scope H2.objs.size s H fp) [] (qdM nl ixs σ) H8 { s8 with heap:=h9,toks:=s8.toks }:=
     ((J9.pins_of (pins':=[]) fun p hp=>absurd hp (by simp)).turned (it:=s.heap.objs.size) (h':=h9) (t':=s8.toks) (fun b o hb e=>(hs9.2 b hb).trans e) nD neD (.inr (yh _))
      (fun x c e z=>by
       obtain ⟨c0,o0,h0,_⟩:=I0.cell x c e
       have:=zM e
       rcases this with ⟨hfr,hcc⟩ | hcc
       ·obtain ⟨c',hc'⟩:=I.ok.has x (by
         rcases O.free _ hfr rfl with q | q
         ·exact .inl q
         ·exact .inr q)
        rw [hc'] at hcc
        have hcc':c=c':=hcc
        obtain ⟨_,q⟩:=I.cell x c' hc'
        rw [← hcc',z] at q
        exact absurd q.lt (Nat.lt_irrefl _)
       ·cases hcc) (fun p hp=>absurd hp (by simp))).weak l6.symm wk
    refine ⟨m',hm,i + 1,H8,ys++[v],its++[y],n9,Ja.pins_of fun p hp=>?_,?_,fr8,v1.append (.cons r8 .nil),w8⟩
    ·have e:p=_:=List.mem_singleton.mp hp
     subst e
     exact ⟨hl9,nD,neD,nfD,fun v z=>by cases z⟩
    ·exact T.keep _ _ _ st8 fun b hb o e=>(hs9.2 b (below b (hfl b hb)).2).trans e
 exact codeAny_compStart_list (loop _ rfl) (T.self _ 0 _ _ _ (T.keep _ _ _ st fun b _ o e=>old b o e) (loop _ rfl))
end
section
variable {X:Cx} {tg elt iter:Expr} {ifs:List Expr} {scope:Scope} {pos:Pos} {N:List Str} {nl:Nat} {ixs:List Nat} {wi:TI} {g:TG} {tc:TT} {te:TE}
theorem qae {sc:Scope} {XN:List Str} (N:List Str) (nl:Nat) (ixs:List Nat) (hsc:X.env.scope=sc) (hXN:X.N=XN) (hc:X.calm=true) (O':qey sc scope=true) (hN:N.length=nl + ixs.length) (hcap':qgB nl ixs N XN scope.names=true)
  (hi:PI X tg iter wi) (hg:∀ C s0 H0 ex,PG (X.comp N scope C s0 H0 ex) tg g) (gk:qdW nl g) (ht:∀ C s0 H0 ex,qfV (X.comp N scope C s0 H0 ex) ifs tc) (he:∀ C s0 H0 ex,PE (X.comp N scope C s0 H0 ex) elt te)
  (hs:∀ x,foldedSetIterable iter X.env x=pure x:=by intro _;rfl):PE X (.ListComp elt [⟨tg,iter,ifs,0⟩] scope pos) (qfr wi g tc te nl ixs):=by
 intro pins s σ H Q I h
 subst hsc hXN
 have O:=qc5 O'
 have hcap:=qdV hcap'
 rw [eval_ListComp]
 have hcl:=qaH (scope:=scope) (env:=X.env) fun n hn=>I.ok.has n (by
  rcases O.free _ hn rfl with z | z
  ·exact .inl z
  ·exact .inr z)
 refine wpAny_comprehension_free (use:=none) rfl hs hcl O.kind O.loc (thn (hi pins s σ H _ I h) fun v s1 h1=>thn h1 fun itv s2 h2=>?_)
 obtain ⟨it,fp,tn,J,H2,e,I2,T,st2,f2,hW⟩:=h2
 subst e
 refine qbB (Q:=Q) (RR:=fun acc C=>compPost (model X.prog X.w) X.A X.xe none (EP X pins σ Q) acc C) I2 hc O hN hcap T st2 f2 hg gk ht he hW ?_
 intro D C s' H' σ' ys its n hC hD J' hv hz q
 obtain ⟨m,hn,_⟩:=id J'.loc
 have B:=I2.compBack f2 hC hD J' hv hz
 obtain ⟨_,nD,neD,_,_⟩:=J'.pin (D,{ cls:=.type "list",data:=.seq its.toArray n }) (List.mem_append_right _ (List.mem_singleton.mpr rfl))
 refine ⟨m,hn,fun h' sb=>⟨.ref D,_,?_,rfl,q D nD⟩⟩
 refine B.turned (it:=C) (h':=h') (t':=s'.toks) (fun b o hb e=>(sb.2 b hb).trans e) ((qh (H:=H') (a:=D) (b:=C) (o:=.lst ys) (Ne.symm neD)).trans J'.free) (Nat.ne_of_gt (yj I2.lt hC)) (.inr (yi I2.sz hC)) (fun x c e z=>?_) (fun p hp z=>?_)
 ·obtain ⟨_,q⟩:=I2.cell x c e
  exact absurd (yj q.lt (by rw [z];exact hC)) (Nat.lt_irrefl _)
 ·exact absurd (yj (Heap.lt_size (I2.pin p hp).1) (by rw [z];exact hC)) (Nat.lt_irrefl _)
theorem qdX {i:Nat} {y:Str} {py spos:Pos} {sc:Scope} {XN:List Str} (N:List Str) (nl:Nat) (ixs:List Nat) (hsc:X.env.scope=sc) (hXN':X.N=XN) (hc:X.calm=true) (O':qey sc scope=true) (hN:N.length=nl + ixs.length) (hcap':qgB nl ixs N XN scope.names=true)
  (hXN:X.N.Nodup) (hi':X.N[i]?=some y) (hy:X.env.scope.names.lookup y=some .local)
  (hi:PI X tg iter wi) (hg:∀ C s0 H0 ex,PG (X.comp N scope C s0 H0 ex) tg g) (gk:qdW nl g) (ht:∀ C s0 H0 ex,qfV (X.comp N scope C s0 H0 ex) ifs tc) (he:∀ C s0 H0 ex,PE (X.comp N scope C s0 H0 ex) elt te)
  (hsw:swapsWith (.ListComp elt [⟨tg,iter,ifs,0⟩] scope pos) (some (.Name y py)) spos.line X.env=pure true:=by rfl)
  (hs:∀ x,foldedSetIterable iter X.env x=pure x:=by intro _;rfl):PS X (.Assign [.Name y py] (.ListComp elt [⟨tg,iter,ifs,0⟩] scope pos) spos) (qfD (qfr wi g tc te nl ixs) (qbv i)):=by
 intro pins s σ H D0 I h
 subst hsc hXN'
 have O:=qc5 O'
 have hcap:=qdV hcap'
 have hcl:=qaH (scope:=scope) (env:=X.env) fun n hn=>I.ok.has n (by
  rcases O.free _ hn rfl with z | z
  ·exact .inl z
  ·exact .inr z)
 rw [exec_Assign_Name_used _ _ _ _ hsw]
 refine wpAny_bind (wpAny_standAt (wpAny_bind ?_))
 show wpAny _ X.A (do let _ ← comprehension (.ListComp elt [⟨tg,iter,ifs,0⟩] scope pos) scope X.env _ (newList []) false (eval iter X.env) (some (assign (.Name y py) X.env))) _ _ s
 refine wpAny_bind (wpAny_mono (wpAny_comprehension_free (use:=some (assign (.Name y py) X.env)) (Q:=fun _ s'=>SP X pins D0 .next s') rfl hs hcl O.kind O.loc
  (thn (hi pins s σ H _ I h) fun v s1 h1=>thn h1 fun itv s2 h2=>?_)) (fun _ s' hq=>wpAny_pure (wpAny_pure hq)) fun _ _ e=>e)
 obtain ⟨it,fp,tn,J,H2,e,I2,T,st2,f2,hW⟩:=h2
 subst e
 refine qbB (Q:=fun v H'=>qbv i v σ H' D0.nx) (RR:=fun acc C=>compPost (model X.prog X.w) X.A X.xe (some (assign (.Name y py) X.env)) (fun _ s'=>SP X pins D0 .next s') acc C) I2 hc O hN hcap T st2 f2 hg gk ht he hW ?_
 intro D C s' H' σ' ys its n hC hD J' hv hz q
 obtain ⟨m,hn,_⟩:=id J'.loc
 have B:=I2.compBack f2 hC hD J' hv hz
 obtain ⟨_,nD,neD,_,_⟩:=J'.pin (D,{ cls:=.type "list",data:=.seq its.toArray n }) (List.mem_append_right _ (List.mem_singleton.mpr rfl))
 show wpAny _ X.A (assign (.Name y py) X.env (.ref D)) _ _ _
 refine wpAny_assign_Name (qb1 (i:=i) (x:=y) (v:=.ref D) B hXN hi' (.inl hy) rfl (fun s'' B' hsb=>?_) (.inr hy))
 obtain ⟨a,sa,ha⟩:=hsb
 have hCa:C≠a:=by
  rintro rfl
  rcases ha with z | z
  ·exact absurd (show X.env.locals < C from yj I2.lt hC) (by rw [z];exact Nat.lt_irrefl _)
  ·obtain ⟨_,q⟩:=I2.cell y C z
   exact absurd (yj q.lt hC) (Nat.lt_irrefl _)
 refine ⟨m,hn.sameBut sa hCa,fun h' sb=>⟨_,_,?_,q D nD⟩⟩
 refine B'.turned (it:=C) (h':=h') (t':=s''.toks) (fun b o hb e=>(sb.2 b hb).trans e) ((qh (H:=H') (a:=D) (b:=C) (o:=.lst ys) (Ne.symm neD)).trans J'.free) (Nat.ne_of_gt (yj I2.lt hC)) (.inr (yi I2.sz hC)) (fun x c e z=>?_) (fun p hp z=>?_)
 ·obtain ⟨_,q⟩:=I2.cell x c e
  exact absurd (yj q.lt (by rw [z];exact hC)) (Nat.lt_irrefl _)
 ·exact absurd (yj (Heap.lt_size (I2.pin p hp).1) (by rw [z];exact hC)) (Nat.lt_irrefl _)
end
def Its (x:Str):It:=⟨fun i _=>i < x.cps.size,fun i H v H'=>H'=H∧∃ c,x.cps[i]?=some c∧v=.str ⟨#[c]⟩,fun i _=>i=x.cps.size⟩
theorem qc7 {P:Program} {w:World} {K:yg} {tg:Expr} {it:Addr} {x:Str} {t:Tok} {T:String} (W:∀ A:Around,A.handled=none→Walks P w A it [it] [it] x.cps.size (SignAt x) fun i h=>h.IsStrIter it T x t i)
  (sf:∀ (A:Around) (i:Nat) (s:Shared) (Q:Value→Shared→Prop) (E:Value→Shared→Prop),s.heap.IsStrIter it T x t i→Q (.ref it) s→wpAny (model P w) A (pyIter (.ref it)) Q E s)
  (htg:∀ v,letOwnedTupleGo tg (.ref it) v=pure ()):Turn P w K tg (Its x) [it] it (fun i h=>h.IsStrIter it T x t i) where
 mem:=by simp
 obj:=fun i h st b hb=>by
  have e:b=it:=by simpa using hb
  subst e
  obtain ⟨o,e,c,d⟩:=st
  exact ⟨o,e,fun v z=>by rw [d] at z;cases z⟩
 keep:=fun i h h' st k=>by
  obtain ⟨o,e,r⟩:=st
  exact ⟨o,k it (by simp) o e,r⟩
 item:=by
  intro X hP hw hK hc i pins s σ H E I hf st hg
  subst hP hw hK
  obtain ⟨f0,f1,f2,f3,f4,f5⟩:=hf it (by simp)
  refine (W X.A (I.ok.hd hc)).item i s _ _ hg st fun v h' tk hv st' kk=>?_
  obtain ⟨c,u,hcx,rfl⟩:=hv
  have I1:Inv X pins σ H { s with heap:=h',toks:=tk }:=I.turned (fun b o hb e=>kk b o (by simpa using hb) e) f0 f1 f3 f4 f5
  refine ⟨_,rfl,wpAny_of_eq (htg _) ⟨.str ⟨#[c]⟩,H,I1,⟨u,rfl⟩,⟨rfl,c,hcx,rfl⟩,st',fun b hb=>(hf b hb).1⟩⟩
 done:=by
  intro X hP hw hK hc i pins s σ H E I hf st hg
  subst hP hw hK
  obtain ⟨f0,f1,f2,f3,f4,f5⟩:=hf it (by simp)
  have e:i=x.cps.size:=hg
  subst e
  exact (W X.A (I.ok.hd hc)).done s _ _ st fun h' tk kk=>⟨rfl,I.turned (fun b o hb e=>kk b o (by simpa using hb) e) f0 f1 f3 f4 f5⟩
 self:=sf
section
variable {X:Cx} {tg:Expr}
end
section
variable {K:yg} {a:Addr} {xs:List V} {g:TG} {tc:TT} {te:TE} {σ':St} {H1:Hp} {Q:V→Hp→Prop}
def qdH (J:It) (g:TG) (tc:TT) (te:TE) (σ':St) (H1:Hp) (Q:V→Hp→Prop):Prop:=
 ∃ W:Nat→Nat→List V→Hp→Prop,(∃ m,W 0 m [] H1)∧∀ i m ys H,W i m ys H →
   (J.stop i H∧ys.length≤sizeLine∧∀ p,H p=none→Q (.ref p) (upd H p (.lst ys))) ∨
   (J.go i H∧∃ M:List V→Hp→Prop,(∀ ys' H',M ys' H'→∃ m',m' < m∧W (i + 1) m' ys' H')∧∀ x H',J.yld i H x H'→g x σ' H' fun σ2 H2=>tc σ2 H2 fun b H3 =>
    if b=true then te σ2 H3 fun v H4=>ys.length < sizeLine∧M (ys++[v]) H4 else M ys H3)
theorem qaf (Pv:Nat→List V→Hp→Prop) (h0:Pv 0 [] H1) (hl:∀ i ys H,i≤xs.length→Pv i ys H→SqL K H a xs)
  (hs:∀ i x ys H,xs[i]?=some x→Pv i ys H→g x σ' H fun σ2 H2=>tc σ2 H2 fun b H3=>if b=true then te σ2 H3 fun v H4=>ys.length < sizeLine∧Pv (i + 1) (ys++[v]) H4 else Pv (i + 1) ys H3)
  (hd:∀ ys H,Pv xs.length ys H→ys.length≤sizeLine∧∀ p,H p=none→Q (.ref p) (upd H p (.lst ys))):qdH (Itl K a) g tc te σ' H1 Q:=by
 refine ⟨fun i m ys H=>m=xs.length - i∧i≤xs.length∧Pv i ys H,⟨xs.length,by simp,Nat.zero_le _,h0⟩,?_⟩
 rintro i m ys H ⟨rfl,hi,p⟩
 have q:=hl i ys H hi p
 by_cases hlt:i < xs.length
 ·refine .inr ⟨⟨xs,xs[i],q,by simp [hlt]⟩,Pv (i + 1),fun ys' H' p'=>⟨xs.length - (i + 1),by omega,rfl,hlt,p'⟩,fun x H' y=>?_⟩
  obtain ⟨e,y⟩:=y
  subst e
  exact hs i x ys _ (y xs q) p
 ·have e:i=xs.length:=by omega
  subst e
  exact .inl ⟨⟨xs,q,yh _⟩,hd ys H p⟩
theorem qbC {lo:Int} {n:Nat} (Pv:Nat→List V→Hp→Prop) (h0:Pv 0 [] H1)
  (hs:∀ i ys H,i < n→Pv i ys H→g (.int (lo + i)) σ' H fun σ2 H2=>tc σ2 H2 fun b H3=>if b=true then te σ2 H3 fun v H4=>ys.length < sizeLine∧Pv (i + 1) (ys++[v]) H4 else Pv (i + 1) ys H3)
  (hd:∀ ys H,Pv n ys H→ys.length≤sizeLine∧∀ p,H p=none→Q (.ref p) (upd H p (.lst ys))):qdH (Itr lo n) g tc te σ' H1 Q:=by
 refine ⟨fun i m ys H=>m=n - i∧i≤n∧Pv i ys H,⟨n,by simp,Nat.zero_le _,h0⟩,?_⟩
 rintro i m ys H ⟨rfl,hi,p⟩
 by_cases hlt:i < n
 ·refine .inr ⟨hlt,Pv (i + 1),fun ys' H' p'=>⟨n - (i + 1),by omega,rfl,hlt,p'⟩,fun x H' y=>?_⟩
  obtain ⟨e,y⟩:=y
  subst e y
  exact hs i ys _ hlt p
 ·have e:i=n:=by omega
  subst e
  exact .inl ⟨yh _,hd ys H p⟩
theorem comp_str {x:Str} (Pv:Nat→List V→Hp→Prop) (h0:Pv 0 [] H1)
  (hs:∀ i c ys H,x.cps[i]?=some c→Pv i ys H→g (.str ⟨#[c]⟩) σ' H fun σ2 H2=>tc σ2 H2 fun b H3=>if b=true then te σ2 H3 fun v H4=>ys.length < sizeLine∧Pv (i + 1) (ys++[v]) H4 else Pv (i + 1) ys H3)
  (hd:∀ ys H,Pv x.cps.size ys H→ys.length≤sizeLine∧∀ p,H p=none→Q (.ref p) (upd H p (.lst ys))):qdH (Its x) g tc te σ' H1 Q:=by
 refine ⟨fun i m ys H=>m=x.cps.size - i∧i≤x.cps.size∧Pv i ys H,⟨x.cps.size,by simp,Nat.zero_le _,h0⟩,?_⟩
 rintro i m ys H ⟨rfl,hi,p⟩
 by_cases hlt:i < x.cps.size
 ·refine .inr ⟨hlt,Pv (i + 1),fun ys' H' p'=>⟨x.cps.size - (i + 1),by omega,rfl,hlt,p'⟩,fun v H' y=>?_⟩
  obtain ⟨e,c,hc,y⟩:=y
  subst e y
  exact hs i c ys _ hc p
 ·have e:i=x.cps.size:=by omega
  subst e
  exact .inl ⟨rfl,hd ys H p⟩
end
def qcj:V→Option Value
 | .ty n=>some (.type n)
 | .ref a=>some (.ref a)
 | _=>none
theorem qbD {y:V} {c u:Value} (h:qcj y=some c) (r:RelV y u):u=c:=by
 cases y with
 | ty n=>cases h;exact r
 | ref a=>cases h;exact r
 | _=>cases h
section
variable {X:Cx} {pins:List (Addr×Obj)} {σ:St} {H:Hp} {s:Shared}
theorem TyOf.kit {x:V} {u t:Value} (I:Inv X pins σ H s) (rx:RelV x u) (ty:TyOf X.K H x t):∃ P:Heap→Prop,PySem.W.KitX X.K u t P∧P s.heap∧u≠.builtin "__main__.__loader__#opaque":=by
 cases ty with
 | non=>cases (show u=Value.none from rx);exact ⟨_,PySem.W.kitx_none,True.intro,(fun z=>nomatch z)⟩
 | bl y=>cases (show u=Value.bool y from rx);exact ⟨_,PySem.W.kitx_bool,True.intro,(fun z=>nomatch z)⟩
 | int i=>obtain ⟨t,q⟩:=(show ∃ t,u=Value.int i t from rx);cases q;exact ⟨_,PySem.W.kitx_int,True.intro,(fun z=>nomatch z)⟩
 | str y=>obtain ⟨t,q⟩:=(show ∃ t,u=Value.str y t from rx);cases q;exact ⟨_,PySem.W.kitx_str,True.intro,(fun z=>nomatch z)⟩
 | flt y=>obtain ⟨t,q⟩:=(show ∃ t,u=Value.float y t from rx);cases q;exact ⟨_,PySem.W.kitx_float,True.intro,(fun z=>nomatch z)⟩
 | @lst a xs ea =>
  cases (show u=Value.ref a from rx)
  obtain ⟨_,_,n,_,h1⟩:=(show ObjOk X.prog X.w H s.heap a (.lst xs) from I.hok a _ ea)
  exact ⟨_,PySem.W.kitx_list,⟨_,h1,rfl⟩,(fun z=>nomatch z)⟩
 | @frz a ob xs ea =>
  cases (show u=Value.ref a from rx)
  obtain ⟨_,_,_,n,_,h1⟩:=(show ObjOk X.prog X.w H s.heap a (.frz ob (.lst xs)) from I.hok a _ ea)
  exact ⟨_,PySem.W.kitx_list,⟨_,h1,rfl⟩,(fun z=>nomatch z)⟩
 | @tup a xs ea =>
  cases (show u=Value.ref a from rx)
  obtain ⟨_,_,_,p⟩:=(show ObjOk X.prog X.w H s.heap a (.tup xs) from I.hok a _ ea)
  obtain ⟨o,h1,h2,_⟩:=p
  exact ⟨_,PySem.W.kitx_tuple,⟨o,h1,h2⟩,(fun z=>nomatch z)⟩
 | @dK a kvs ea =>
  cases (show u=Value.ref a from rx)
  obtain ⟨_,_,vs,_,p⟩:=(show ObjOk X.prog X.w H s.heap a (.dK kvs) from I.hok a _ ea)
  obtain ⟨o,es,ep,h1,h2,_⟩:=p
  exact ⟨_,PySem.W.kitx_dict,⟨o,h1,h2.1⟩,(fun z=>nomatch z)⟩
 | @dT a kvs ea =>
  cases (show u=Value.ref a from rx)
  obtain ⟨_,_,xs,_,o,es,ep,h1,h2,_⟩:=(show ObjOk X.prog X.w H s.heap a (.dT kvs) from I.hok a _ ea)
  exact ⟨_,PySem.W.kitx_dict,⟨o,h1,h2.1⟩,(fun z=>nomatch z)⟩
 | @ins a C dx fs ea cl ha hn htk hm =>
  cases (show u=Value.ref a from rx)
  obtain ⟨mA,O,_⟩:=qaS I.hok ea
  obtain ⟨od,J,_⟩:=O.look
  exact ⟨_,PySem.W.kitx_own (cl.get _) cl.hd ha hn htk hm,J,(fun z=>nomatch z)⟩
end
section
variable {X:Cx}
theorem qbj:∀ {ys:List V} {cs us:List Value},ys.map qcj=cs.map some→Vals ys us→us=cs
 | [],[],_,_,.nil=>rfl
 | [],_::_,_,h,_=>by cases h
 | y::ys,[],_,h,_=>by cases h
 | y::ys,c::cs,_,h,.cons r t=>by
  rw [List.map_cons,List.map_cons] at h
  injection h with h1 h2
  rw [qbD h1 r,qbj h2 t]
theorem qc8:∀ {bs:List Bool} {us:List Value},Vals (bs.map V.bl) us→us=bs.map Value.bool
 | [],_,.nil=>rfl
 | b::bs,_,.cons r t=>by
  have e:=qc8 t
  rw [e]
  cases r
  rfl
def qg5 (K:yg):List V→Hp→VK→Prop:=fun xs H Q=>∃ (p:Addr) (bs:List Bool),xs=[.ref p]∧SqL K H p (bs.map V.bl)∧Q (.bl (bs.all id)) H
theorem call_all (hc:X.calm=true):zY X (.builtin "all") (qg5 X.K):=by
 intro pins s σ H xs us Q I r h
 obtain ⟨p,bs,rfl,hp,q⟩:=h
 obtain ⟨u,rfl,ru⟩:=qbf r
 cases ru
 obtain ⟨its,rv,pl,hz⟩:=I.list hp
 have e:=qc8 rv
 subst e
 have hh:X.A.in1.handled=none:=I.ok.hd hc
 refine call_all_walk (wpAny_pyIter_list pl.isList ?_)
 have hne:p≠s.heap.objs.size:=by
  obtain ⟨o,ho,_⟩:=pl.isList
  exact Nat.ne_of_lt (Heap.lt_size ho)
 refine ⟨s.heap.objs.size,_,_,_,_,_,fun i=>(bs[i]?).getD false,rfl,Walks.list hh s.heap.objs.size p hne (bs.map Value.bool).toArray,⟨⟨_,Heap.get?_push_size _ rfl,rfl,rfl⟩,pl.isList.at fun o e=>Heap.get?_push_of_some _ e⟩,fun i v s Q E hv hq=>?_,fun h' tk hk=>?_⟩
 ·have hv':(bs.map Value.bool)[i]?=some v:=by simpa using hv
  rw [yd] at hv'
  cases e:bs[i]? with
  | none=>rw [e] at hv';cases hv'
  | some b =>
   rw [e] at hv'
   cases hv'
   have hq':Q ((bs[i]?).getD false) s:=hq
   rw [e] at hq'
   exact wpAny_pure hq'
 ·have e:((List.range (bs.map Value.bool).toArray.size).all fun i=>(bs[i]?).getD false)=bs.all id:=by
   rw [List.size_toArray,ya]
   have key:∀ bs:List Bool,((List.range bs.length).all fun i=>(bs[i]?).getD false)=bs.all id:=by
    intro bs
    induction bs with
    | nil=>rfl
    | cons b r ih =>
     rw [List.length_cons,List.range_succ_eq_map,List.all_cons,List.all_map,List.all_cons,← ih]
     rfl
   exact key bs
  rw [e]
  refine ⟨.bl _,H,?_,rfl,q⟩
  have I1:Inv X pins σ H { s with heap:=s.heap.push { cls:=.type "list_iterator",data:=.fields #[.ref p,.int 0 0] } }:=I.kept (t':=s.toks) fun b o e=>Heap.get?_push_of_some _ e
  have nf:=I.fpOk (b:=s.heap.objs.size) (yh _) (I.hok.fresh (yh _))
  exact I1.turned (it:=s.heap.objs.size) (h':=h') (t':=tk) (fun b o hb e=>hk b o (by simpa using hb) e) nf.1 nf.2.1 nf.2.2.2.1 nf.2.2.2.2.1 nf.2.2.2.2.2
theorem op_le_str:OpR X (compareOp .LtE) (fun x y H Q=>∃ i j,x=.str i∧y=.str j∧Q (.bl (!decide (j.cps.toList < i.cps.toList))) H):=by
 intro pins s σ H x y v u Q I rx ry h
 obtain ⟨i,j,rfl,rfl,q⟩:=h
 obtain ⟨t,rfl⟩:=rx
 obtain ⟨t',rfl⟩:=ry
 exact PySem.P.le_str (fin_bl I q (by rfl))
def qgD:R2:=fun x y H Q=>match x,y with
 | .int i,.int j=>Q (.bl (decide (i≤j))) H
 | .str i,.str j=>Q (.bl (!decide (j.cps.toList < i.cps.toList))) H
 | _,_=>False
theorem qgn:OpR X (compareOp .LtE) qgD:=by
 intro pins s σ H x y v u Q I rx ry h
 cases x with
 | int i=>cases y with
  | int j=>exact op_le pins s σ H _ _ v u Q I rx ry ⟨i,j,rfl,rfl,h⟩
  | _=>exact False.elim h
 | str i=>cases y with
  | str j=>exact op_le_str pins s σ H _ _ v u Q I rx ry ⟨i,j,rfl,rfl,h⟩
  | _=>exact False.elim h
 | _=>exact False.elim h
def rIsU:R2:=fun x y H Q=>match x,y with
 | .bl i,.bl j=>Q (.bl (i==j)) H
 | x,.non=>Q (.bl (decide (x=.non))) H
 | _,_=>False
theorem op_rep_str:OpR X (binaryOp .Mult) (fun x y H Q=>∃ z k,x=.str z∧y=.int k∧MulOk z k∧Q (.str (Txt.mul z k)) H):=by
 intro pins s σ H x y v u Q I rx ry h
 obtain ⟨z,k,rfl,rfl,hm,q⟩:=h
 obtain ⟨t,rfl⟩:=rx
 obtain ⟨t',rfl⟩:=ry
 exact SB.mul hm fun t' k'=>⟨.str _,H,I.tok _,⟨_,rfl⟩,q⟩
def qfW:R2:=fun x y H Q=>match x,y with
 | .int i,.int j=>CMul i j∧Q (.int (i * j)) H
 | .str z,.int k=>MulOk z k∧Q (.str (Txt.mul z k)) H
 | .ref a,.int k=>qg4 (.ref a) (.int k) H Q
 | _,_=>False
theorem qcI:OpR X (binaryOp .Mult) qfW:=by
 intro pins s σ H x y v u Q I rx ry h
 cases y with
 | int j=>cases x with
  | int i=>exact op_mul pins s σ H _ _ v u Q I rx ry ⟨i,j,rfl,rfl,h.1,h.2⟩
  | str i=>exact op_rep_str pins s σ H _ _ v u Q I rx ry ⟨i,j,rfl,rfl,h.1,h.2⟩
  | ref a=>exact qeQ pins s σ H _ _ v u Q I rx ry h
  | _=>exact False.elim h
 | _=>cases x<;>exact False.elim h
def qdY (K:yg):R2:=fun x y H Q=>match x,y with
 | .int i,.int j=>Q (.int (i + j)) H
 | .str i,.str j=>i.length + j.length≤sizeLine∧Q (.str (i++j)) H
 | .ref a,.ref b=>qg3 (.ref a) (.ref b) H Q∨qfS K (.ref a) (.ref b) H Q
 | _,_=>False
theorem u_add:OpR X (binaryOp .Add) (qdY X.K):=by
 intro pins s σ H x y v u Q I rx ry h
 cases x with
 | int i=>cases y with
  | int j=>exact op_add pins s σ H _ _ v u Q I rx ry ⟨i,j,rfl,rfl,h⟩
  | _=>exact False.elim h
 | str i=>cases y with
  | str j=>exact op_add_str pins s σ H _ _ v u Q I rx ry ⟨i,j,rfl,rfl,h.1,h.2⟩
  | _=>exact False.elim h
 | ref a=>cases y with
  | ref b=>exact h.elim (fun h=>op_cat pins s σ H _ _ v u Q I rx ry h) fun h=>op_catT pins s σ H _ _ v u Q I rx ry h
  | _=>exact False.elim h
 | _=>exact False.elim h
def qcJ (K:yg):List V→Hp→VK→Prop:=fun xs H Q=>match xs with
 | [.str z]=>z.length≤sizeLine∧Q (.int z.length) H
 | [.ref p]=>(∃ ys,(SqL K H p ys∨SqT K H p ys)∧Q (.int ys.length) H)∨∃ kvs,H p=some (.dK kvs)∧Q (.int kvs.length) H
 | _=>False
theorem call_lenU:zY X (.builtin "len") (qcJ X.K):=by
 intro pins s σ H xs us Q I r h
 match xs,h with
 | [.str z],h=>exact call_len_str pins s σ H _ us Q I r ⟨z,rfl,h.1,h.2⟩
 | [.ref p],.inl ⟨ys,h,q⟩=>exact call_len_seq pins s σ H _ us Q I r ⟨p,ys,rfl,h,q⟩
 | [.ref p],.inr ⟨kvs,h,q⟩=>exact call_lenD pins s σ H _ us Q I r ⟨p,kvs,rfl,h,q⟩
theorem sl_str:SlR X (fun x lo hi H Q=>∃ z,x=.str z∧z.length≤sizeLine∧Q (.str (Txt.slice z lo hi)) H):=by
 intro pins s σ H x v vl vu lo hi sl Q I rx hs pl pu h
 obtain ⟨z,rfl,hz,q⟩:=h
 obtain ⟨t,rfl⟩:=rx
 refine ⟨"str",_,F.slot_str_getitem.lookup,typeIs_str _ _ _,?_⟩
 cases pl with
 | none =>
  cases pu with
  | none=>exact wpAny_getItem_str_slice (l:=none) (u:=none) (st:=none) hs rfl (post_val_or_str ⟨yi (Txt.slice_le z _ _) hz,fun t' k=>⟨.str _,H,I.tok _,⟨_,rfl⟩,q⟩⟩)
  | int j uj=>exact wpAny_getItem_str_slice (l:=none) (u:=some (j,uj)) (st:=none) hs rfl (post_val_or_str ⟨yi (Txt.slice_le z _ _) hz,fun t' k=>⟨.str _,H,I.tok _,⟨_,rfl⟩,q⟩⟩)
 | int i ui =>
  cases pu with
  | none=>exact wpAny_getItem_str_slice (l:=some (i,ui)) (u:=none) (st:=none) hs rfl (post_val_or_str ⟨yi (Txt.slice_le z _ _) hz,fun t' k=>⟨.str _,H,I.tok _,⟨_,rfl⟩,q⟩⟩)
  | int j uj=>exact wpAny_getItem_str_slice (l:=some (i,ui)) (u:=some (j,uj)) (st:=none) hs rfl (post_val_or_str ⟨yi (Txt.slice_le z _ _) hz,fun t' k=>⟨.str _,H,I.tok _,⟨_,rfl⟩,q⟩⟩)
def qgo (K:yg):V→Option Int→Option Int→Hp→VK→Prop:=fun x lo hi H Q=>match x with
 | .str z=>z.length≤sizeLine∧Q (.str (Txt.slice z lo hi)) H
 | .ref a=>qg1 K (.ref a) lo hi H Q∨qgX K (.ref a) lo hi H Q
 | _=>False
theorem u_sl:SlR X (qgo X.K):=by
 intro pins s σ H x v vl vu lo hi sl Q I rx hs pl pu h
 cases x with
 | str z=>exact sl_str pins s σ H _ v vl vu lo hi sl Q I rx hs pl pu ⟨z,rfl,h.1,h.2⟩
 | ref a=>exact h.elim (fun h=>sl_list pins s σ H _ v vl vu lo hi sl Q I rx hs pl pu h) fun h=>sl_tup pins s σ H _ v vl vu lo hi sl Q I rx hs pl pu h
 | _=>exact False.elim h
theorem qdZ:∀ {ys:List Str} {us:List Value},Vals (ys.map V.str) us→StrsAre us ys
 | [],_,.nil=>.nil
 | y::ys,_,.cons r t=>by
  obtain ⟨tk,rfl⟩:=r
  exact .cons y tk (qdZ t)
def qfX (K:yg):V→List V→Hp→VK→Prop:=fun x vs H Q=>∃ (z:Str) (p:Addr) (ys:List Str),x=.str z∧vs=[.ref p]∧SqL K H p (ys.map V.str)∧(ys.map (·.length)).sum + ys.length * z.length≤16777216∧Q (.str (Txt.join z ys)) H
theorem mt_join:MtR X "str.join" (qfX X.K):=by
 intro pins s σ H x vs v us Q I rx rv h
 obtain ⟨z,p,ys,rfl,rfl,hp,hz,q⟩:=h
 obtain ⟨t,rfl⟩:=rx
 obtain ⟨u,rfl,ru⟩:=rv.one
 cases ru
 obtain ⟨its,r,pl,_⟩:=I.list hp
 exact join_list pl.isList (by simpa using qdZ r) hz fun t' k=>⟨.str _,H,I.tok _,⟨_,rfl⟩,q⟩
def qgE (K:yg) (te:TE):TI:=fun σ H R=>te σ H fun v H1=>match v with
 | .str x=>R (Its x) H1
 | .ref a=>((∃ xs,SqL K H1 a xs)∧R (Itl K a) H1)∨((∃ xs,SqT K H1 a xs)∧R (Itt K a) H1)
 | _=>False
theorem pi_any {tg e:Expr} {te:TE} (he:PE X e te) (htg:∀ it v,letOwnedTupleGo tg it v=pure ():=by intro _ _;rfl):PI X tg e (qgE X.K te):=by
 intro pins s σ H R I h
 refine thn (he pins s σ H _ I h) fun v s1 ⟨y,H1,I1,r1,q1⟩=>?_
 cases y with
 | str x =>
  obtain ⟨t,rfl⟩:=r1
  have fp:∀ b∈[s1.heap.objs.size],qcC X pins H1 b:=fun b hb=>by
   have e:b=s1.heap.objs.size:=by simpa using hb
   subst e
   exact I1.fpOk (yh _) (I1.hok.fresh (yh _))
  cases ha:x.cps.all (· < 128)
  ·exact wpAny_pyIter_wide ha ⟨s1.heap.objs.size,[s1.heap.objs.size],_,_,H1,rfl,I1.kept (t':=s1.toks) fun b o e=>Heap.get?_push_of_some _ e,
    qc7 (T:="str_iterator") (fun A hA=>Walks.strWide hA _ x t) (fun A i s Q E st h=>wpAny_pyIter_striter_wide st h) (htg _),⟨_,Heap.get?_push_size _ rfl,rfl,rfl⟩,fp,q1⟩
  ·exact wpAny_pyIter_ascii ha ⟨s1.heap.objs.size,[s1.heap.objs.size],_,_,H1,rfl,I1.kept (t':=s1.toks) fun b o e=>Heap.get?_push_of_some _ e,
    qc7 (T:="str_ascii_iterator") (fun A hA=>Walks.strAscii hA _ x t) (fun A i s Q E st h=>wpAny_pyIter_striter_ascii st h) (htg _),⟨_,Heap.get?_push_size _ rfl,rfl,rfl⟩,fp,q1⟩
 | ref a =>
  cases r1
  have fp:∀ b∈[s1.heap.objs.size],qcC X pins H1 b:=fun b hb=>by
   have e:b=s1.heap.objs.size:=by simpa using hb
   subst e
   exact I1.fpOk (yh _) (I1.hok.fresh (yh _))
  rcases q1 with ⟨⟨xs,hq⟩,q⟩ | ⟨⟨xs,hq⟩,q⟩
  ·obtain ⟨its,rv,p,hz⟩:=I1.list hq
   exact wpAny_pyIter_list p.isList ⟨s1.heap.objs.size,[s1.heap.objs.size],_,_,H1,rfl,I1.kept (t':=s1.toks) fun b o e=>Heap.get?_push_of_some _ e,qb3 a _,⟨_,Heap.get?_push_size _ rfl,rfl,rfl⟩,fp,q⟩
  ·obtain ⟨its,rv,p,hz⟩:=I1.tuple hq
   exact wpAny_pyIter_tuple (show s1.heap.IsTuple a its.toArray from p) ⟨s1.heap.objs.size,[s1.heap.objs.size],_,_,H1,rfl,I1.kept (t':=s1.toks) fun b o e=>Heap.get?_push_of_some _ e,turn_tuple a _,⟨_,Heap.get?_push_size _ rfl,rfl,rfl⟩,fp,q⟩
 | _=>exact False.elim q1
end
section
variable {D:Ends} {σ:St} {H:Hp} {Q:VK} {QT:Bool→Hp→Prop} {QA:List V→Hp→Prop} {t u:TS} {te ta tb tc:TE} {c c':TT} {tr tas:TA} {r r':R2} {K:yg}
theorem vSeq (h:t { D with nx:=u D } σ H):qgv t u D σ H:=h
theorem vAsg {i:Nat} (h:te σ H fun x H1=>D.nx (σ.set i (some x)) H1):qfD te (qbv i) D σ H:=h
theorem vAsgS {to ti:TE} {s:qfM} (h:te σ H fun x H1=>to σ H1 fun o H2=>ti σ H2 fun i H3=>s o i x H3 fun H4=>D.nx σ H4):qfD te (qgU to ti s) D σ H:=h
theorem vIfS (h:c σ H fun b H1=>if b=true then t D σ H1 else u D σ H1):qgS c t u D σ H:=h
theorem vRet (h:te σ H D.rt):qgR te D σ H:=h
theorem vRetN (h:D.rt .non H):tRetN D σ H:=h
theorem vDrop (h:te σ H fun _ H1=>D.nx σ H1):qfL te D σ H:=h
theorem vNext (h:D.nx σ H):qfK D σ H:=h
theorem vC {v:V} (h:Q v H):tC v σ H Q:=h
theorem vVar {i:Nat} {v:V} (e:σ[i]?=some (some v)) (h:Q v H):qfH i σ H Q:=⟨v,e,h⟩
theorem vOp (h:ta σ H fun x H1=>tb σ H1 fun y H2=>r x y H2 Q):tOp r ta tb σ H Q:=h
theorem vUn {f:V→Hp→VK→Prop} (h:ta σ H fun x H1=>f x H1 Q):tUn f ta σ H Q:=h
theorem vChain (h:ta σ H fun x H1=>tb σ H1 fun y H2=>r x y H2 fun z H3=>∃ k,z=.bl k∧if k=true then tc σ H3 fun z2 H4=>r' y z2 H4 Q else Q (.bl false) H3):qdO r r' ta tb tc σ H Q:=h
theorem vNil (h:QA [] H):qc1 σ H QA:=h
theorem vCons (h:ta σ H fun x H1=>tr σ H1 fun xs H2=>QA (x::xs) H2):zK ta tr σ H QA:=h
theorem vCB {f:List V→Hp→VK→Prop} (h:tas σ H fun vs H1=>f vs H1 Q):tCB f tas σ H Q:=h
theorem vCall {sp:Sp} {E:XK} (h:tas σ H fun vs H1=>sp (vs++[]) H1 Q E):qcE sp [] E tas σ H Q:=h
theorem vLst (h:tas σ H fun xs H1=>xs.length≤sizeLine∧∀ p,H1 p=none→Q (.ref p) (upd H1 p (.lst xs))):qex tas σ H Q:=h
theorem vTup (h:tas σ H fun xs H1=>xs.length≤sizeLine∧∀ p,H1 p=none→Q (.ref p) (upd H1 p (.tup xs))):qgm tas σ H Q:=h
theorem vTest (h:te σ H fun x H'=>∃ k,x=.bl k∧QT k H'):qfo te σ H QT:=h
theorem vB (h:te σ H fun x H'=>∃ k,x=.bl k∧QT k H'):tB te σ H QT:=h
theorem vNot (h:c σ H fun b H1=>QT (!b) H1):qgP c σ H QT:=h
theorem vAnd (h:c σ H fun b H1=>if b=true then c' σ H1 QT else QT false H1):qgO c c' σ H QT:=h
theorem vOr (h:c σ H fun b H1=>if b=true then QT true H1 else c' σ H1 QT):tOr c c' σ H QT:=h
theorem vAndV (h:ta σ H fun x H1=>∃ k,x=.bl k∧if k=true then tb σ H1 Q else Q (.bl false) H1):qfI ta tb σ H Q:=h
theorem vOrV (h:ta σ H fun x H1=>∃ k,x=.bl k∧if k=true then Q (.bl true) H1 else tb σ H1 Q):qgQ ta tb σ H Q:=h
theorem vNotV (h:ta σ H fun x H1=>∃ k,x=.bl k∧Q (.bl (!k)) H1):qfJ ta σ H Q:=h
theorem vIf (h:c σ H fun b H1=>if b=true then ta σ H1 Q else tb σ H1 Q):tIf c ta tb σ H Q:=h
theorem vYes (h:QT true H):qgC σ H QT:=h
theorem vI0 {g:Int→Int→V} {i j:Int} (h:Q (g i j) H):rI0 g (.int i) (.int j) H Q:=⟨i,j,rfl,rfl,h⟩
theorem vI {C:Int→Int→Prop} {g:Int→Int→V} {i j:Int} (hc:C i j) (h:Q (g i j) H):rI C g (.int i) (.int j) H Q:=⟨i,j,rfl,rfl,hc,h⟩
theorem vEqI {i j:Int} (h:Q (.bl (decide (i=j))) H):rEq (.int i) (.int j) H Q:=⟨rfl,by
 have e:decide (V.int i=V.int j)=decide (i=j):=by
  by_cases h:i=j
  ·subst h;simp
  ·rw [yl h,yl (fun e=>h (V.int.inj e))]
 rw [e];exact h⟩
theorem vEqB {i j:Bool} (h:Q (.bl (i==j)) H):rEq (.bl i) (.bl j) H Q:=⟨rfl,by rw [dec_bl];exact h⟩
theorem zk {p:Addr} {xs:List V} {i:Int} {v:V} (hp:H p=some (.lst xs)) (ha:atI xs i=some v) (h:Q v H):rIx K (.ref p) (.int i) H Q:=.inl ⟨p,xs,i,v,rfl,rfl,SqL.of hp,ha,h⟩
theorem vIxLs {p:Addr} {xs:List V} {i:Int} {v:V} (hp:SqL K H p xs) (ha:atI xs i=some v) (h:Q v H):rIx K (.ref p) (.int i) H Q:=.inl ⟨p,xs,i,v,rfl,rfl,hp,ha,h⟩
theorem qbE {p:Addr} {xs:List V} {i:Int} {v:V} (hp:H p=some (.tup xs)) (ha:atI xs i=some v) (h:Q v H):rIx K (.ref p) (.int i) H Q:=.inr (.inl ⟨p,xs,i,v,rfl,rfl,SqT.of hp,ha,h⟩)
theorem qgF {z:Str} {i:Int} {ch:Nat} (hz:z.length≤sizeLine) (ha:atI z.cps.toList i=some ch) (h:Q (.str ⟨#[ch]⟩) H):rIx K (.str z) (.int i) H Q:=.inr (.inr ⟨z,i,ch,rfl,rfl,hz,ha,h⟩)
theorem qeA {p:Addr} {xs:List V} {k:Int} {v:V} {j:Nat} {QH:Hp→Prop} (hp:H p=some (.lst xs)) (hj:ixN xs.length k=some j) (h:QH (upd H p (.lst (xs.set j v)))):qfq (.ref p) (.int k) v H QH:=⟨p,xs,k,j,rfl,rfl,hp,hj,h⟩
theorem vEx {k:Bool} {P:Bool→Prop} (h:P k):∃ k',V.bl k=.bl k'∧P k':=⟨k,rfl,h⟩
theorem vLeI {i j:Int} (h:Q (.bl (decide (i≤j))) H):qgD (.int i) (.int j) H Q:=h
theorem vLeS {i j:Str} (h:Q (.bl (!decide (j.cps.toList < i.cps.toList))) H):qgD (.str i) (.str j) H Q:=h
theorem vIsB {i j:Bool} (h:Q (.bl (i==j)) H):rIsU (.bl i) (.bl j) H Q:=h
theorem vAddI {i j:Int} (h:Q (.int (i + j)) H):qdY K (.int i) (.int j) H Q:=h
theorem qfs {i j:Str} (hz:i.length + j.length≤sizeLine) (h:Q (.str (i++j)) H):qdY K (.str i) (.str j) H Q:=⟨hz,h⟩
theorem qcK {i j:Int} (hc:CMul i j) (h:Q (.int (i * j)) H):qfW (.int i) (.int j) H Q:=⟨hc,h⟩
theorem qfY {z:Str} (hz:z.length≤sizeLine) (h:Q (.int z.length) H):qcJ K [.str z] H Q:=⟨hz,h⟩
theorem qaU {p:Addr} {ys:List V} (hp:H p=some (.lst ys)) (h:Q (.int ys.length) H):qcJ K [.ref p] H Q:=.inl ⟨ys,.inl (SqL.of hp),h⟩
theorem vLenLs {p:Addr} {ys:List V} (hp:SqL K H p ys) (h:Q (.int ys.length) H):qcJ K [.ref p] H Q:=.inl ⟨ys,.inl hp,h⟩
theorem qfZ {p:Addr} {ys:List V} (hp:H p=some (.tup ys)) (h:Q (.int ys.length) H):qcJ K [.ref p] H Q:=.inl ⟨ys,.inr (SqT.of hp),h⟩
theorem qgG {z:Str} {lo hi:Option Int} (hz:z.length≤sizeLine) (h:Q (.str (Txt.slice z lo hi)) H):qgo K (.str z) lo hi H Q:=⟨hz,h⟩
theorem vSl {f:V→Option Int→Option Int→Hp→VK→Prop} {tl th:TO} (h:te σ H fun x H1=>tl σ H1 fun l H2=>th σ H2 fun u H3=>f x l u H3 Q):tSl f te tl th σ H Q:=h
theorem vNoPart {QO:Option Int→Hp→Prop} (h:QO none H):qdR σ H QO:=h
theorem vPart {QO:Option Int→Hp→Prop} (h:te σ H fun x H1=>∃ i,x=.int i∧QO (some i) H1):qfR te σ H QO:=h
theorem vExI {i:Int} {P:Int→Prop} (h:P i):∃ j,V.int i=.int j∧P j:=⟨i,rfl,h⟩
theorem vBM {T:String} {f:V→List V→Hp→VK→Prop} (h:te σ H fun x H1=>tyV K T x H1∧tas σ H1 fun xs H2=>f x xs H2 Q):tBM K T f te tas σ H Q:=h
theorem vBM0 {T:String} {f:V→List V→Hp→VK→Prop} (h:te σ H fun x H1=>tyV K T x H1∧f x [] H1 Q):qgz K T f te σ H Q:=h
theorem vComp {wi:TI} {g:TG} {nl:Nat} {ixs:List Nat} (h:wi σ H fun J H1=>qdH J g c te (qdM nl ixs σ) H1 Q):qfr wi g c te nl ixs σ H Q:=h
theorem vFor {wi:TI} {g:TG} (h:wi σ H fun J H1=>∃ W:Nat→Nat→St→Hp→Prop,(∃ m,W 0 m σ H1)∧∀ i m σ H,W i m σ H →
 (J.stop i H∧D.nx σ H)∨(J.go i H∧∃ N:St→Hp→Prop,(∀ σ' H',N σ' H'→∃ m',m' < m∧W (i + 1) m' σ' H')∧∀ x H',J.yld i H x H'→g x σ H' fun σ2 H2=>t { D with nx:=N,ct:=N,bk:=D.nx } σ2 H2)):qgV wi g t D σ H:=h
theorem vRng1 {R:It→Hp→Prop} (h:tas σ H fun vs H1=>∃ j:Int,vs=[.int j]∧-(2 ^ 62)≤j∧j < 2 ^ 62∧R (Itr 0 j.toNat) H1):qfN tas σ H R:=h
theorem vAny {R:It→Hp→Prop} (h:te σ H fun v H1=>match v with
 | .str x=>R (Its x) H1
 | .ref a=>((∃ xs,SqL K H1 a xs)∧R (Itl K a) H1)∨((∃ xs,SqT K H1 a xs)∧R (Itt K a) H1)
 | _=>False):qgE K te σ H R:=h
theorem vGN {i:Nat} {v:V} {QS:St→Hp→Prop} (h:QS (σ.set i (some v)) H):qbv i v σ H QS:=h
end
section
variable {X:Cx} {K:yg} {o e:Expr} {es:List Expr} {to ta:TE} {t:TA} {name f:Str} {apos cpos pos:Pos} {T id:String} {r:V→List V→Hp→VK→Prop} {tg:Expr}
theorem jX (hK:X.K=K):zY X (.builtin "len") (qcJ K):=by subst hK;exact call_lenU
theorem qft (hK:X.K=K) (hc:X.calm=true):zY X (.builtin "all") (qg5 K):=by subst hK;exact call_all hc
theorem qes (hK:X.K=K):SlR X (qgo K):=by subst hK;exact u_sl
theorem jY (hK:X.K=K):OpR X (binaryOp .Add) (qdY K):=by subst hK;exact u_add
theorem qeT (hK:X.K=K):MtR X "str.join" (qfX K):=by subst hK;exact mt_join
theorem jK (hK:X.K=K) (he:PE X e ta) (htg:∀ it v,letOwnedTupleGo tg it v=pure ():=by intro _ _;rfl):PI X tg e (qgE K ta):=by subst hK;exact pi_any he htg
theorem k_bm0 (hK:X.K=K) (pa:PlainAttrs T) (slot:Slot T name id) (hty:typeOf (.builtin id)=pure (.type "method_descriptor")) (hm:MtR X id r) (ho:PE X o to)
  (hbase:attributeBase o name X.env (eval o X.env)=eval o X.env:=by rfl) (hline:(apos.endLine==cpos.line)=true:=by rfl):PE X (.Call (.Attribute o name apos) [] [] cpos) (qgz K T r to):=by
 subst hK
 exact pe_bm0 pa slot hty hm ho hbase hline
theorem qdI (hK:X.K=K) (pa:PlainAttrs T) (slot:Slot T name id) (hty:typeOf (.builtin id)=pure (.type "method_descriptor")) (hm:MtR X id r) (ho:PE X o to) (ha:PA X (e::es) t)
  (hbase:attributeBase o name X.env (eval o X.env)=eval o X.env:=by rfl)
  (hfew:((backTo cpos (starEach (e::es) X.env)).all (fun x=>!x.1)&&(backToKw cpos (keywordEach [] X.env)).all (fun x=>x.1.isSome)
   && decide ((e::es).length + ([]:List Keyword).length + (if ([]:List Keyword).isEmpty then 0 else 1) < 30))=true:=by rfl)
  (hline:(apos.endLine==cpos.line)=true:=by rfl) (hs:starEach (e::es) X.env=(false,eval e X.env)::starEach es X.env:=by rfl) (hplain:(backTo cpos (starEach es X.env)).any (·.1)=false:=by rfl) :
  PE X (.Call (.Attribute o name apos) (e::es) [] cpos) (tBM K T r to t):=by
 subst hK
 exact pe_bm pa slot hty hm ho ha hbase hfew hline hs hplain
end
structure DefOk (P:Program) (w:World) (K:yg) (mg:Str→Option Value) (base:Heap) (CX:CXT) (k:Nat) (x:Str) (ps:List Str) (sp:Sp):Prop where
 ex:∃ f fd,FnOk P w K mg base CX k f fd ps sp∧mg x=some (.ref f)∧PySem.W.keepIn K (.ref f)=true∧Binds K fd ps []
section
variable {X:Cx} {CX:CXT} {k:Nat} {ps:List Str} {sp:Sp} {E:XK} {x:Str} {p pos:Pos} {e:Expr} {es:List Expr} {t:TA}
theorem qr (D:DefOk X.prog X.w X.K X.mg X.base CX k x ps sp) (hr:Room k X.A) (hx:qad CX X E) (ha:PA X (e::es) t) (hg:Gl X x:=by rfl) (hdb:(x==("__debug__":Str))=false:=by decide)
  (he:starEach (e::es) X.env=(false,eval e X.env)::starEach es X.env:=by rfl) (hpl:(backTo pos (starEach es X.env)).any (·.1)=false:=by rfl):PE X (.Call (.Name x p) (e::es) [] pos) (qcE sp [] E t):=by
 obtain ⟨f,fd,F,hm,hk,hb⟩:=D.ex
 exact pe_call F hr hg hm hk hb .nil hx ha hdb he hpl
theorem qbO {i:Int} (hg:Gl X x) (hm:∃ tk,X.mg x=some (.int i tk)) (hd:(x==("__debug__":Str))=false:=by decide):PE X (.Name x pos) (tC (.int i)):=by
 obtain ⟨tk,hm⟩:=hm
 exact qcB hg hm ⟨tk,rfl⟩ hd
end
def qcL (t c:String):Bool:=t==c||(t=="bool"&&c=="int")
theorem j7 (K:yg):∀ t∈["NoneType", "bool", "int", "str", "list", "tuple", "dict"],∀ c∈["bool", "int", "str", "list", "tuple", "dict"],PySem.W.kitOne K (.type t) (.type c)=some (qcL t c):=by
 intro t ht c hc
 simp only [List.mem_cons,List.not_mem_nil,or_false] at ht hc
 rcases ht with rfl | rfl | rfl | rfl | rfl | rfl | rfl<;>rcases hc with rfl | rfl | rfl | rfl | rfl | rfl<;>rfl
def qb0:List Value→Bool
 | [.type a,.type b,.type c,.type d]=>a=="ValueError"&&b=="Exception"&&c=="BaseException"&&d=="object"
 | .ref _::r=>qb0 r
 | _=>false
def qgp (K:yg) (C:Addr):Bool:=match K.lookup C with
 | some ⟨.type "type",_,.cls cd,sl⟩=>(match cd.mro,sl.toList with
  | .ref D::bm,[_,_,_,_,some (.builtin n),_]=>D==C&&!cd.hasDel&&qb0 bm&&n=="ValueError.__new__"
  | _,_=>false)
 | _=>false
theorem qc9 {K:yg} {h:Heap} {C:Addr} (X:K.In h) (q:qgp K C=true):∃ nm qn N bs bm hdct sn sub ab col dd k0 k1 k2 k3 k5,
  h.get? C=some (excClassObj nm qn C N bs bm hdct sn sub ab col dd k0 k1 k2 k3 k5 "ValueError.__new__")∧qb0 bm=true:=by
 unfold qgp at q
 split at q
 ·rename_i dd cd sl ho
  split at q
  ·rename_i D bm k0 k1 k2 k3 n k5 hm hs
   simp only [Bool.and_eq_true,beq_iff_eq,Bool.not_eq_true'] at q
   obtain ⟨⟨⟨e1,e2⟩,e3⟩,e4⟩:=q
   subst e1 e4
   obtain ⟨nm,bs,mro,ns,qn,hd,sn,sub,ab,col,del⟩:=cd
   dsimp only at hm e2
   subst hm e2
   obtain ⟨l⟩:=sl
   dsimp only at hs
   subst hs
   exact ⟨nm,qn,ns,bs,bm,hd,sn,sub,ab,col,dd,k0,k1,k2,k3,k5,X _ _ ho,e3⟩
  ·cases q
 ·cases q
structure XAt (K:yg) (C:Addr):Prop where
 ga:PySem.W.findIn K (.ref C) "__getattribute__"=some (some (.builtin "BaseException.__getattribute__"))
 gn:PySem.W.findIn K (.ref C) "__getattr__"=some none
 bx:PySem.W.mroIn K C (.type "BaseException")=some true
 ob:PySem.W.mroIn K C (.type "object")=some true
 hd:PySem.W.hasDictIn K C=true
 cl:PySem.W.findIn K (.ref C) "__class__"=some (some (.builtin "object.__class__"))
 cg:PySem.W.specialIn K (.builtin "object.__class__") "__get__"=some (some (.builtin "getset_descriptor.__get__"))
 ct:PySem.W.takesIn K (.builtin "object.__class__")=some true
 sa:PySem.W.findIn K (.ref C) "__setattr__"=some (some (.builtin "object.__setattr__"))
 mr:(PySem.W.clsIn K C).any (fun cd=>qb0 cd.mro)=true
 xc:qgp K C=true
theorem bexc_ga_slot:Slot "ValueError" "__getattribute__" "BaseException.__getattribute__":=PySem.F.attr_ValueError.ga
section
variable {prog:Program} {w:World} {A:Around} {E:Value→Shared→Prop} {s:Shared} {K:yg} {x C:Addr} {ox:Obj} {od:Option Obj} {name:Str} {v:Value}
theorem xga_value {tk:Tok} {Q:Fin→Shared→Prop} (X:K.In s.heap) (I:PySem.W.InstAt s.heap x ox C od) (hf:PySem.W.findObj K C od name=some (.value v)) (h:Q (.done (.ret v)) s) :
  wpAny (model prog w) A (Builtin.«object.__getattribute__» ⟨[.ref x,.str name tk],[]⟩) Q E s:=by
 have F:=PySem.W.looks_find (M:=model prog w) X I hf
 refine wpAny_bind (wpAny_pure (wpAny_bind (wpAny_pure (wpAny_bind (I.type.here (wpAny_bind (F.here ?_)))))))
 exact wpAny_pure h
theorem xga_call {tk:Tok} {R:Result→Shared→Prop} (X:K.In s.heap) (I:PySem.W.InstAt s.heap x ox C od) (hb:PySem.W.mroIn K C (.type "BaseException")=some true)
  (h:wpAny (model prog w) A.in1 (Builtin.«object.__getattribute__» ⟨[.ref x,.str name tk],[]⟩) (fun fin s'=>match fin with | .done f=>R (.ok f) s' | .again c'=>c'.quiet=true∧codeAny (model prog w) A c' R s') (fun e s'=>R (.error e) s') s) :
  codeAny (model prog w) A (.call (.builtin "BaseException.__getattribute__") ⟨[.ref x,.str name tk],[]⟩) R s:=by
 refine codeAny_call_builtin bexc_ga_slot.plain PySem.F.entry_bexc_ga ?_
 exact @PySem.W.check_slot (model prog w) _ _ s "BaseException.__getattribute__" "BaseException" "__getattribute__" (.ref x) [.str name tk] [] _ (by decide +kernel) (by decide +kernel) (I.type.andThen (PySem.W.looks_mroIn X hb)) (PySem.F.args_bexc_ga _ _) h
theorem qd0 {fill expr:Bool} {tk:Tok} {Q:Value→Shared→Prop} (X:K.In s.heap) (I:PySem.W.InstAt s.heap x ox C od) (c:XAt K C)
  (h:wpAny (model prog w) A.in1 (Builtin.«object.__getattribute__» ⟨[.ref x,.str name tk],[]⟩) (fun fin s'=>match fin with | .done (.ret v)=>wpAny (model prog w) A (handedOut v) Q E s' | _=>False) (fun _ _=>False) s) :
  wpAny (model prog w) A (getAttrBy (.ref x) (.str name tk) fill expr) Q E s:=by
 unfold getAttrBy
 refine wpAny_holding (wpAny_bind (I.type.here (wpAny_bind ((PySem.W.looks_findIn X c.ga).here ?_))))
 have e1:(onTheHeap (Value.ref C)&&Value.builtin "BaseException.__getattribute__"==Value.builtin "object.__getattribute__")=false:=by
  rw [show (Value.builtin "BaseException.__getattribute__"==Value.builtin "object.__getattribute__")=false by decide +kernel]
  rfl
 dsimp only
 rw [e1,if_neg (by decide)]
 unfold getAttrByItsOwn hookBefore
 rw [if_pos (show onTheHeap (Value.ref C)=true from rfl)]
 refine wpAny_bind ((PySem.W.looks_findIn X c.gn).here (wpAny_bind (wpAny_attempt (wpAny_holding ?_))))
 have e2:(expr&&onTheHeap (Value.builtin "BaseException.__getattribute__"))=false:=by cases expr<;>rfl
 unfold callGetattribute
 rw [e2,if_neg (by decide)]
 unfold boundAndCalled
 rw [bexc_ga_slot.bind]
 refine wpAny_bind (wpAny_pure ?_)
 show wpAny _ _ (call (.builtin "BaseException.__getattribute__") [.ref x,.str name tk]) _ _ _
 refine wpAny_call (xga_call X I c.bx (wpAny_mono h (fun fin s' z=>?_) fun _ _ z=>z.elim))
 rcases fin with (_ | _ | _ | _) | _<;>first | exact z | exact z.elim
theorem xget {expr:Bool} {Q:Value→Shared→Prop} (X:K.In s.heap) (I:PySem.W.InstAt s.heap x ox C od) (c:XAt K C) (hf:PySem.W.findObj K C od name=some (.value v)) (hh:PySem.W.handedIn v=true)
  (h:Q v { s with toks:=s.toks + 1 }):wpAny (model prog w) A (getAttr (.ref x) name expr) Q E s:=by
 unfold getAttr
 refine wpAny_bind (wpAny_mkText (qd0 (s:={ s with toks:=s.toks + 1 }) X I c (xga_value (s:={ s with toks:=s.toks + 1 }) X I hf ?_)))
 show wpAny _ _ (handedOut v) _ _ _
 rw [PySem.W.handedOut_of hh]
 exact wpAny_pure h
theorem xclass {Q:Option Value→Shared→Prop} (X:K.In s.heap) (I:PySem.W.InstAt s.heap x ox C od) (c:XAt K C) (hf:PySem.W.findObj K C od "__class__"=some (.bind (.builtin "getset_descriptor.__get__") (.builtin "object.__class__")))
  (h:Q (some (.ref C)) { s with toks:=s.toks + 1 }):wpAny (model prog w) A (getAttr? (.ref x) "__class__") Q E s:=by
 unfold getAttr? getAttrBy?
 refine wpAny_bind (wpAny_mkText (wpAny_bind (wpAny_attempt (qd0 (s:={ s with toks:=s.toks + 1 }) X I c ?_))))
 have F:=PySem.W.looks_find (M:=model prog w) X I hf
 refine wpAny_bind (wpAny_pure (wpAny_bind (wpAny_pure (wpAny_bind (I.type.here (s:={ s with toks:=s.toks + 1 }) (wpAny_bind (F.here (s:={ s with toks:=s.toks + 1 }) ?_)))))))
 show wpAny _ _ (holding [Value.builtin "object.__class__"] (call (.builtin "getset_descriptor.__get__") [.builtin "object.__class__",.ref x,.ref C])>>=ret) _ _ _
 refine wpAny_bind (wpAny_holding (wpAny_call (PySem.W.class_get (s:={ s with toks:=s.toks + 1 }) X I c.ob ?_)))
 refine wpAny_pure ?_
 show wpAny _ _ (handedOut (.ref C)) _ _ _
 exact wpAny_pure (wpAny_pure h)
theorem findObj_class (c:XAt K C):PySem.W.findObj K C od "__class__"=some (.bind (.builtin "getset_descriptor.__get__") (.builtin "object.__class__")):=by
 obtain ⟨cd,hc,_⟩:=PySem.W.any_some c.hd
 unfold PySem.W.findObj
 rw [hc,Option.bind_some,c.cl,Option.bind_some]
 simp [c.cg,c.ct]
theorem qda {od:Option Obj} (c:XAt K C):PySem.W.KitX K (.ref x) (.ref C) (fun h=>PySem.W.InstAt h x ox C od) where
 ty:=fun _ _ _ I=>I.type
 it:=fun _ _ X _=>by
  obtain ⟨cd,hc,_⟩:=PySem.W.any_some c.hd
  unfold PySem.W.clsIn at hc
  split at hc
  ·rename_i c1 d1 cd1 sl1 ho
   intro A' Q' E' s' k q
   unfold isType loadHead
   exact wpAny_bind (wpAny_loadPart (k _ _ (X _ _ ho)) (wpAny_pure q))
  ·cases hc
 ne:=fun h tp dd its n sl X htp=>by
  obtain ⟨cd,hc,_⟩:=PySem.W.any_some c.hd
  refine Bool.eq_false_iff.mpr fun q=>?_
  have e:C=tp:=Value.ref.inj (beq_iff_eq.mp q)
  subst e
  unfold PySem.W.clsIn at hc
  split at hc
  ·rename_i c1 d1 cd1 sl1 ho
   have z:=(X _ _ ho).symm.trans htp
   cases z
  ·cases hc
 ca:=fun X I k=>xclass X I c (findObj_class c) k
end
theorem qck {c:Addr} {r:List Value} (e:qb0 (.ref c::r)=true):qb0 r=true:=by
 cases r with
 | nil=>cases e
 | cons a r=>exact e
theorem qaI:∀ {l:List Value},qb0 l=true→∃ rs:List Addr,l=rs.map Value.ref++[.type "ValueError",.type "Exception",.type "BaseException",.type "object"]
 | [],e=>by cases e
 | .ref c::r,e=>by
  obtain ⟨rs,q⟩:=qaI (qck e)
  exact ⟨c::rs,by rw [q];rfl⟩
 | .type a::r,e=>by
  match r,e with
  | [.type b,.type c,.type d],e =>
   simp only [qb0,Bool.and_eq_true,beq_iff_eq] at e
   obtain ⟨⟨⟨rfl,rfl⟩,rfl⟩,rfl⟩:=e
   exact ⟨[],rfl⟩
theorem refuse_exc (self:Value) {l:List Value} (e:qb0 l=true):refuseLoop self "__setattr__" l=pure ():=by
 obtain ⟨rs,rfl⟩:=qaI e
 induction rs with
 | nil=>exact PySem.F.store_ValueError.passes self
 | cons c rs ih=>rw [List.map_cons,List.cons_append,refuseLoop_ref];exact ih (qck e)
theorem qaJ {l:List Value} (e:qb0 l=true) {T:String} (h:T∈["ValueError", "Exception", "BaseException", "object"]):l.contains (.type T)=true:=by
 obtain ⟨rs,rfl⟩:=qaI e
 rw [List.contains_iff_mem]
 refine List.mem_append_right _ ?_
 simp only [List.mem_cons,List.not_mem_nil,or_false] at h ⊢
 rcases h with rfl | rfl | rfl | rfl<;>simp
section
variable {prog:Program} {w:World} {A:Around} {E:Value→Shared→Prop} {s:Shared} {K:yg} {x C:Addr} {name:Str} {v:Value} {R:Result→Shared→Prop}
theorem xosa {tk:Tok} {ox:Obj} {od:Option Obj} (X:K.In s.heap) (I:PySem.W.InstAt s.heap x ox C od) (c:XAt K C) (n:NoAttr K C name)
  (h:wpAny (model prog w) A.in1 (Builtin.ObjectAttr.storeInOwnDict (.ref x) (.ref C) (.str name tk) name v false)
   (fun fin s'=>match fin with | .done f=>R (.ok f) s' | .again c'=>c'.quiet=true∧codeAny (model prog w) A c' R s') (fun e s'=>R (.error e) s') s) :
  codeAny (model prog w) A (.call (.builtin "object.__setattr__") ⟨[.ref x,.str name tk,v],[]⟩) R s:=by
 have SF:=PySem.F.store_object
 obtain ⟨cd,hc,ho⟩:=PySem.W.any_some c.mr
 have hm:PySem.W.Looks (model prog w) s.heap (mroOf (.ref C)) cd.mro:=(PySem.W.looks_clsIn X hc).andThen .now
 refine codeAny_call_builtin SF.slot.plain SF.entry (@PySem.W.check_slot (model prog w) _ _ s "object.__setattr__" "object" "__setattr__" (.ref x) [.str name tk,v] [] _ SF.kind SF.split (I.type.andThen (PySem.W.looks_mroIn X c.ob)) (SF.args (.ref x) (.str name tk) v) ?_)
 rw [PySem.W.osa_eq,refuse_eq]
 refine wpAny_bind (wpAny_bind (I.type.here (wpAny_bind (hm.here ?_))))
 rw [refuse_exc _ ho]
 refine wpAny_pure (wpAny_bind (I.type.here (wpAny_bind ((PySem.W.looks_findIn X n).here (wpAny_bind (wpAny_pure ?_))))))
 exact h
theorem xset {vs:Array Value} (X:K.In s.heap) (hx:s.heap.get? x=some ⟨.ref C,none,.fields vs,#[]⟩) (c:XAt K C) (n:NoAttr K C name) {Q:Unit→Shared→Prop}
  (h:∀ h',h'.get? x=some ⟨.ref C,some s.heap.objs.size,.fields vs,#[]⟩→h'.Ns1 s.heap.objs.size (fun y=>if y=name then some v else none)→(∀ b o,b≠x→s.heap.get? b=some o→h'.get? b=some o) →
   Q () { s with heap:=h',toks:=s.toks + 2 }):wpAny (model prog w) A (setAttr (.ref x) name v) Q E s:=by
 have I:PySem.W.InstAt s.heap x ⟨.ref C,none,.fields vs,#[]⟩ C none:=⟨hx,rfl,rfl,True.intro⟩
 obtain ⟨cd,hc,hd⟩:=PySem.W.any_some c.hd
 refine PySem.W.set_plain X I c.sa (xosa (s:={ s with toks:=s.toks + 1 }) X I c n ?_)
 refine wpAny_bind (wpAny_pure (wpAny_bind (wpAny_bind (wpAny_loadPart hx (wpAny_bind ((PySem.W.looks_clsIn X hc).here (s:={ s with toks:=s.toks + 1 }) ?_))))))
 rw [hd]
 obtain ⟨hh,g,dr,tk,os⟩:=s
 show wpAny _ _ (alloc { cls:=.type "dict",data:=.dict #[] }>>=fun d=>update x (fun o=>{ cls:=o.cls,dict:=some d,data:=o.data,slots:=o.slots })>>=fun _=>pure (some d)) _ _ _
 have hxs:x≠hh.objs.size:=Nat.ne_of_lt (Heap.lt_size hx)
 have hx1:=Heap.get?_push_of_some { cls:=.type "dict",data:=.dict #[] } hx
 refine wpAny_bind (wpAny_alloc' (wpAny_bind (wpAny_update' hx1 (wpAny_pure ?_))))
 have hx2:=Heap.get?_update_self (fun o:Obj=>{ cls:=o.cls,dict:=some hh.objs.size,data:=o.data,slots:=o.slots }) hx1 rfl
 have hd2:=(Heap.get?_update_ne (hh.push { cls:=.type "dict",data:=.dict #[] }) hh.objs.size x (fun o:Obj=>{ cls:=o.cls,dict:=some hh.objs.size,data:=o.data,slots:=o.slots }) hxs.symm).trans (Heap.get?_push_at rfl rfl)
 generalize hg:(hh.push { cls:=.type "dict",data:=.dict #[] }).update x (fun o:Obj=>{ cls:=o.cls,dict:=some hh.objs.size,data:=o.data,slots:=o.slots })=h2 at hx2 hd2 ⊢
 have nd:h2.Ns hh.objs.size (fun _=>none):=⟨_,#[],_,hd2,rfl,fun e he=>absurd he (by simp),fun _=>rfl⟩
 show wpAny _ _ (Builtin.ObjectAttr.storeInDict hh.objs.size (.str name tk) name v) _ _ _
 unfold Builtin.ObjectAttr.storeInDict Builtin.ObjectAttr.newKeyGuard
 refine wpAny_bind (wpAny_pure (wpAny_bind (wpAny_nsSet1 (Heap.Ns1.of_empty nd) fun h' n2 sb=>?_)))
 obtain ⟨oD,esD,epD,hoD,hdD,hcD⟩:=n2.count (PySem.Within.cons name v PySem.Within.nil)
 have hz:esD.size≤sizeLine:=yi hcD (by rw [List.length_cons,List.length_nil,sizeLine_eq];omega)
 refine wpAny_bind (wpAny_lookBehind hoD (by rw [hdD];exact pastItsLine_dict (Nat.le_succ_of_le hz)) ?_)
 refine wpAny_pure (h h' ((sb.2 x hxs).trans hx2) n2 fun b o hb e=>(sb.2 b (Nat.ne_of_lt (Heap.lt_size e))).trans ?_)
 rw [← hg]
 exact (Heap.get?_update_ne _ _ _ _ hb).trans (Heap.get?_push_of_some _ e)
theorem ve_check {M:Model} {ox:Obj} {u:Value} {Q:Unit→Shared→Prop} (X:K.In s.heap) (c:XAt K C) (hx:s.heap.get? x=some ox) (hcls:ox.cls=.ref C) (q:Q () s) :
  wpAny M A (checkBuiltinCall "ValueError.__init__" ⟨[.ref x,u],[]⟩) Q E s:=by
 have F:=PySem.F.excBase_ValueError
 have hshort:=F.noStar
 obtain ⟨nm,qn,N,bs,bm,hdct,sn,sub,ab,col,dd,k0,k1,k2,k3,k5,hC,hm⟩:=qc9 X c.xc
 have hcB:(Value.ref C::bm).contains (.type "ValueError")=true:=by rw [List.contains_cons,qaJ hm (by simp),Bool.or_true]
 obtain ⟨hh,g,dr,tk,os⟩:=s
 simp only [checkBuiltinCall,F.initKind,F.initSplit,F.initRow]
 repeat (first | (with_reducible refine wpAny_loadPart_at hx ?_;rw [hcls]) | with_reducible refine wpAny_loadPart_at hC ?_ | (with_reducible refine wpAny_isSubtype_exc hC ?_;rw [hcB]) | wp_step)
 exact q
abbrev xfs (a0:Addr):Array Value:=#[.ref a0,.none,.none,.none,.bool false,.none]
theorem xbase_init {a0:Addr} {u:Value} (X:K.In s.heap) (hx:s.heap.get? x=some ⟨.ref C,none,.fields (xfs a0),#[]⟩) (c:XAt K C) {Q:Value→Shared→Prop}
  (h:∀ h' a1,h'.get? x=some ⟨.ref C,none,.fields (xfs a1),#[]⟩→(∀ b o,b≠x→s.heap.get? b=some o→h'.get? b=some o)→Q .none { s with heap:=h' }) :
  wpAny (model prog w) A (call (.builtin "ValueError.__init__") [.ref x,u]) Q E s:=by
 have F:=PySem.F.excBase_ValueError
 refine wpAny_call (codeAny_call_builtin F.init.plain F.initEntry (ve_check X c hx rfl ?_))
 obtain ⟨hh,g,dr,tk,os⟩:=s
 wp_walk
 refine h _ hh.objs.size ?_ fun b o hb e=>?_
 ·rw [Heap.get?_update_self _ (Heap.get?_push_of_some _ hx) rfl]
  rfl
 ·rw [Heap.get?_update_other _ _ (Ne.symm hb)]
  exact Heap.get?_push_of_some _ e
end
theorem qdb {l:List Value} (e:qb0 l=true) {T:String} (h:T∉["ValueError", "Exception", "BaseException", "object"]):l.contains (.type T)=false:=by
 obtain ⟨rs,rfl⟩:=qaI e
 refine Bool.eq_false_iff.mpr fun q=>?_
 rcases List.mem_append.mp (List.contains_iff_mem.mp q) with z | z
 ·obtain ⟨a,_,q⟩:=List.mem_map.mp z
  cases q
 ·simp only [List.mem_cons,List.not_mem_nil,or_false,Value.type.injEq] at z h
  exact h z
section
variable {prog:Program} {w:World} {A:Around} {R:Result→Shared→Prop} {E:Value→Shared→Prop} {h:Heap} {g:Array GenState} {d:Drawn} {t:Nat} {os:OsState}
variable {nm q:Str} {C N:Addr} {bs bm:List Value} {hdct:Bool} {sn:List Str} {sub:List Value} {ab:Bool} {col:Option Bool} {dd:Option Addr} {k0 k1 k2 k3 k5:Option Value}
theorem xnew_check {M:Model} {rest:List Value} {Q:Unit→Shared→Prop} (hC:h.get? C=some (excClassObj nm q C N bs bm hdct sn sub ab col dd k0 k1 k2 k3 k5 "ValueError.__new__")) (hm:qb0 bm=true) (hq:Q () ⟨h,g,d,t,os⟩) :
  wpAny M A (checkBuiltinCall "ValueError.__new__" ⟨.ref C::rest,[]⟩) Q E ⟨h,g,d,t,os⟩:=by
 have F:=PySem.F.excBase_ValueError
 have hcont:(Value.ref C::bm).contains (.type "ValueError")=true:=by rw [List.contains_cons,qaJ hm (by simp),Bool.or_true]
 have hstar:=F.noStar
 simp only [checkBuiltinCall,F.newKind,F.newSplit,F.newRow]
 repeat (first | refine wpAny_loadPart_at hC ?_ | (refine wpAny_isSubtype_exc hC ?_;rw [hcont]) | refine wpAny_staticBase_exc hC ?_ | refine wpAny_madeBy_exc hC ?_ | simp only [bne_self_eq_false,Bool.false_eq_true,if_false] | wp_step)
 exact hq
theorem xnew {rest:List Value} (hC:h.get? C=some (excClassObj nm q C N bs bm hdct sn sub ab col dd k0 k1 k2 k3 k5 "ValueError.__new__")) (hm:qb0 bm=true) (hrest:rest.length≤sizeLine)
  (hq:R (.ok (.ret (.ref (h.objs.size + 1)))) ⟨(h.push { cls:=.type "tuple",data:=.seq rest.toArray }).push { cls:=.ref C,data:=.fields (xfs h.objs.size) },g,d,t,os⟩) :
  codeAny (model prog w) A (.builtin "ValueError.__new__" ⟨.ref C::rest,[]⟩) R ⟨h,g,d,t,os⟩:=by
 have F:=PySem.F.excBase_ValueError
 have hends:=F.ends
 have hcB:(Value.ref C::bm).contains (.type "ValueError")=true:=by rw [List.contains_cons,qaJ hm (by simp),Bool.or_true]
 have hcA:(Value.ref C::bm).contains (.type "AttributeError")=false:=by rw [List.contains_cons,qdb hm (by simp)];rfl
 have hcN:(Value.ref C::bm).contains (.type "NameError")=false:=by rw [List.contains_cons,qdb hm (by simp)];rfl
 refine codeAny_builtinAt F.entry ?_
 unfold Builtin.«BaseException.__new__»
 refine PySem.wpAt_bind ?_
 show PySem.wpAt _ _ _ (stack>>=_) _ _ _
 refine PySem.wpAt_bind (PySem.wpAt_stack fun p0 below0=>PySem.wpAt_of_wpAny ?_)
 wp_walk
 refine PySem.wpAt_of_wpAny ?_
 rw [F.owner]
 repeat (first | with_reducible refine wpAny_madeHere_exc F.canon hC ?_ | with_reducible refine wpAny_loadPart_at hC ?_ | (with_reducible refine wpAny_isSubtype_exc hC ?_;first | rw [hcB] | rw [hcA] | rw [hcN]) | wp_step)
 show R _ _
 rw [Heap.size_push]
 exact hq
theorem xtype_call {K:yg} {f:Addr} {rest:List Value} {Q:Fin→Shared→Prop} (X:K.In h) (hC:h.get? C=some (excClassObj nm q C N bs bm hdct sn sub ab col dd k0 k1 k2 k3 k5 "ValueError.__new__")) (hm:qb0 bm=true)
  (hi:PySem.W.findIn K (.ref C) "__init__"=some (some (.ref f))) (hf:PySem.W.isFn K (.ref f)=true) (hrest:rest.length≤sizeLine)
  (hq:wpAny (model prog w) A (call (.ref f) (.ref (h.objs.size + 1)::rest)) (fun r s'=>r=.none∧Q (.done (.ret (.ref (h.objs.size + 1)))) s') E
   ⟨(h.push { cls:=.type "tuple",data:=.seq rest.toArray }).push { cls:=.ref C,data:=.fields (xfs h.objs.size) },g,d,t,os⟩) :
  wpAny (model prog w) A (Builtin.«type.__call__» ⟨.ref C::rest,[]⟩) Q E ⟨h,g,d,t,os⟩:=by
 have F:=PySem.F.excBase_ValueError
 repeat (first | with_reducible refine wpAny_loadPart_at hC ?_ | with_reducible refine wpAny_madeBy_exc hC ?_ | wp_step)
 refine codeAny_call_builtin_code (Code.quiet_builtin _ F.quiet) (xnew_check hC hm (xnew hC hm hrest ?_))
 show wpAny _ _ _ _ _ _
 have up:∀ b o,h.get? b=some o→((h.push { cls:=.type "tuple",data:=.seq rest.toArray }).push { cls:=.ref C,data:=.fields (xfs h.objs.size) }).get? b=some o:=fun b o e=>Heap.get?_push_of_some _ (Heap.get?_push_of_some _ e)
 have hC1:=up _ _ hC
 have hget:((h.push { cls:=.type "tuple",data:=.seq rest.toArray }).push { cls:=.ref C,data:=.fields (xfs h.objs.size) }).get? (h.objs.size + 1)=some { cls:=.ref C,data:=.fields (xfs h.objs.size) }:=Heap.get?_push_at (by rw [Heap.size_push]) rfl
 have X1:K.In ((h.push { cls:=.type "tuple",data:=.seq rest.toArray }).push { cls:=.ref C,data:=.fields (xfs h.objs.size) }):=X.keeps up
 have hcC:(Value.ref C::bm).contains (.ref C)=true:=by simp
 unfold isInstance
 repeat (first | with_reducible refine wpAny_loadPart_at hget ?_ | (with_reducible refine wpAny_isSubtype_exc hC1 ?_;rw [hcC]) | wp_step)
 show wpAny _ _ (typeLookup (.ref C) _) _ _ _
 refine (PySem.W.looks_findIn X1 hi).at (wpAny_holding (wpAny_bind ((PySem.W.bind_fn X1 _ (beq_iff_eq.mp hf)).at (wpAny_bind (wpAny_mono hq (fun r s' hr=>?_) fun _ _ z=>z)))))
 obtain ⟨rfl,hQ⟩:=hr
 wp_walk
 exact hQ
theorem xcall {K:yg} {f:Addr} {rest:List Value} {s:Shared} {Q:Value→Shared→Prop} (X:K.In s.heap) (c:XAt K C) (hi:PySem.W.findIn K (.ref C) "__init__"=some (some (.ref f))) (hf:PySem.W.isFn K (.ref f)=true) (hrest:rest.length≤sizeLine)
  (hq:wpAny (model prog w) (A.under (.builtin "type.__call__" ⟨.ref C::rest,[]⟩)) (call (.ref f) (.ref (s.heap.objs.size + 1)::rest)) (fun r s'=>r=.none∧Q (.ref (s.heap.objs.size + 1)) s') E
   { s with heap:=(s.heap.push { cls:=.type "tuple",data:=.seq rest.toArray }).push { cls:=.ref C,data:=.fields (xfs s.heap.objs.size) } }) :
  wpAny (model prog w) A (call (.ref C) rest) Q E s:=by
 obtain ⟨nm,qn,N,bs,bm,hdct,sn,sub,ab,col,dd,k0,k1,k2,k3,k5,hC,hm⟩:=qc9 X c.xc
 obtain ⟨h,g,d,t,os⟩:=s
 have f1:=tc_lookup
 have f2:=tc_bind (.ref C)
 have hT:(⟨h,g,d,t,os⟩:Shared).TypeIs (.ref C) "type":=⟨_,hC,rfl⟩
 refine wpAny_call (codeAny_of_tree ?_)
 show wpAny _ _ (callAny (.ref C) _) _ _ _
 repeat (any_goals (first | assumption | with_reducible refine wpAny_loadPart_at hC ?_ | wp_step))
 refine ⟨rfl,?_⟩
 exact codeAny_call_builtin_at (Code.quiet_builtin _ (by decide +kernel)) entry_typeCall (wpAny_check_type_call_sub hC (xtype_call X hC hm hi hf hrest hq))
end
def XN (e C:Addr) (dx:Option Addr):HO:=.ext fun h=>∃ a0,h.get? e=some ⟨.ref C,dx,.fields (xfs a0),#[]⟩
def XO (e C:Addr) (dx:Option Addr):HO:=.ext fun h=>∃ vs,h.get? e=some ⟨.ref C,dx,.fields vs,#[]⟩
theorem XN.ok {P:Program} {w:World} {H:Hp} {h:Heap} {e C a0:Addr} {dx:Option Addr} (q:h.get? e=some ⟨.ref C,dx,.fields (xfs a0),#[]⟩):ObjOk P w H h e (XN e C dx):=
 ⟨⟨a0,q⟩,⟨_,q⟩,fun _ _ ⟨a,x⟩ k=>⟨a,k _ x⟩⟩
theorem XO.ok {P:Program} {w:World} {H:Hp} {h:Heap} {e C:Addr} {vs:Array Value} {dx:Option Addr} (q:h.get? e=some ⟨.ref C,dx,.fields vs,#[]⟩):ObjOk P w H h e (XO e C dx):=
 ⟨⟨vs,q⟩,⟨_,q⟩,fun _ _ ⟨a,x⟩ k=>⟨a,k _ x⟩⟩
def IsX (H:Hp) (e C:Addr) (dx:Option Addr):Prop:=H e=some (XN e C dx)∨H e=some (XO e C dx)
theorem IsX.get {P:Program} {w:World} {H:Hp} {h:Heap} {e C:Addr} {dx:Option Addr} (q:IsX H e C dx) (hok:HOk P w H h):∃ vs,h.get? e=some ⟨.ref C,dx,.fields vs,#[]⟩:=by
 rcases q with q | q
 ·obtain ⟨⟨a,x⟩,_⟩:=(show ObjOk P w H h e (XN e C dx) from hok e _ q)
  exact ⟨_,x⟩
 ·obtain ⟨⟨a,x⟩,_⟩:=(show ObjOk P w H h e (XO e C dx) from hok e _ q)
  exact ⟨_,x⟩
theorem upd_id {H:Hp} {a:Addr} {o:HO} (h:H a=some o):upd H a o=H:=by
 funext b
 unfold upd
 split
 ·rename_i e;subst e;exact h.symm
 ·rfl
section
variable {X:Cx} {pins:List (Addr×Obj)} {σ:St} {H:Hp} {s:Shared} {e C:Addr} {dx:Option Addr}
theorem qeU (I:Inv X pins σ H s) {d:Addr} {fs:List (Str×V)} (h:H d=some (.xd fs)):∃ (od:Obj) (mA:Str→Option Value),s.heap.get? d=some od∧(∀ name,PySem.W.lookIn name od=some (mA name))∧∀ f,RelO (fs.lookup f) (mA f):=by
 obtain ⟨mA,n,r⟩:=(show ObjOk X.prog X.w H s.heap d (.xd fs) from I.hok d _ h)
 obtain ⟨od,h1,h2⟩:=qb6 n
 exact ⟨od,mA,h1,h2,r⟩
end
section
variable {X:Cx} {pins:List (Addr×Obj)} {σ:St} {H:Hp} {s:Shared} {a d:Addr} {h':Heap} {o u:HO} {t':Nat}
theorem Inv.both (I:Inv X pins σ H s) (mu:Mut (H a)) (hd:s.heap.objs.size≤d) (k:∀ b v,b≠a→s.heap.get? b=some v→h'.get? b=some v) (ha:∃ v,h'.get? a=some v)
  (n1:ObjOk X.prog X.w (upd (upd H d u) a o) h' a o) (n2:ObjOk X.prog X.w (upd (upd H d u) a o) h' d u) (ne:d≠a):Inv X pins σ (upd (upd H d u) a o) { s with heap:=h',toks:=t' }:=by
 have nd:H d=none:=I.hok.fresh hd
 have na:∀ b q,H b=some q→¬ Mut (some q)→b≠a:=fun b q e nm z=>by subst z;rw [e] at mu;exact nm mu
 have nn:∀ b,H b=none→b≠a:=fun b e z=>by subst z;rw [e] at mu;exact mu
 have big:∀ b v,s.heap.get? b=some v→b≠d:=fun b v e=>Nat.ne_of_lt (yj (Heap.lt_size e) hd)
 have up:∀ b q,H b=some q→b≠a→upd (upd H d u) a o b=some q:=fun b q e n=>by rw [qh n,qh (qE e nd)];exact e
 refine I.un ⟨fun b v e n _ _=>k b v (nn b n) e,fun b v e n _ _=>⟨v.slots,k b v (nn b n) e⟩,fun b v e n _=>by rw [qh (nn b n),qh (big b v e)];exact n,fun b v e _=>?_,fun b xs e=>up b _ e (na b _ e fun z=>z),fun b q xs e=>up b _ e (na b _ e fun z=>z),
  fun b ps e=>⟨#[],by rw [up b _ e (na b _ e fun z=>z)];simp⟩⟩ fun b q e=>?_
 ·by_cases hb:b=a
  ·subst hb;exact ha
  ·exact ⟨v,k b v hb e⟩
 ·by_cases hb:b=a
  ·subst hb
   rw [qc] at e
   cases e
   exact n1
  ·rw [qh hb] at e
   by_cases hbd:b=d
   ·subst hbd
    rw [qc] at e
    cases e
    exact n2
   ·rw [qh hbd] at e
    refine (I.hok b q e).stay (fun c v hc r=>k c v ?_ r) (fun c r=>up c _ r (na c _ r fun z=>z)) fun c xs r=>up c _ r (na c _ r fun z=>z)
    rcases hc with rfl | hc
    ·exact hb
    ·exact na c _ hc fun z=>z
end
def qf0 (K:yg) (ta:TE) (f:Str):TE:=fun σ H Q=>ta σ H fun x H1=>(∃ a C dx fs v,x=.ref a∧H1 a=some (.ins C dx fs)∧Cls K C∧NoAttr K C f∧fs.lookup f=some v∧Q v H1) ∨
 (∃ a C dx fs v,x=.ref a∧IsX H1 a C (some dx)∧XAt K C∧NoAttr K C f∧H1 dx=some (.xd fs)∧fs.lookup f=some v∧Q v H1)
def qf1 (K:yg) (ta tv:TE) (f:Str):TS:=fun D σ H=>tv σ H fun y H1=>ta σ H1 fun x H2=>(∃ a C dx fs,x=.ref a∧H2 a=some (.ins C dx fs)∧Cls K C∧NoAttr K C f∧fs.length < 1000 ∧
  D.nx σ (upd H2 a (.ins C dx (jR f y fs)))) ∨
 (∃ a C,x=.ref a∧H2 a=some (XN a C none)∧XAt K C∧NoAttr K C f∧∀ dx,H2 dx=none→D.nx σ (upd (upd H2 dx (.xd [(f,y)])) a (XN a C (some dx))))
section
variable {X:Cx} {o e value:Expr} {f:Str} {pos pos':Pos} {ta tv:TE} {K:yg}
theorem zW (hK:X.K=K) (he:PE X e ta) (hb:attributeBase e f X.env (eval e X.env)=eval e X.env):PE X (.Attribute e f pos) (qf0 K ta f):=by
 subst hK
 intro pins s σ H Q I h
 refine attr_of hb (thn (he pins s σ H _ I h) fun u s1 ⟨x,H1,I1,rx,hx⟩=>?_)
 rcases hx with ⟨a,C,dx,fs,v,rfl,ea,c,n,l,q⟩ | ⟨a,C,dx,fs,v,rfl,ea,c,n,hd,l,q⟩
 ·obtain rfl:u=Value.ref a:=rx
  exact getattr_ok I1 ea c n l fun u' s2 I2 ru=>⟨v,H1,I2,ru,q⟩
 ·obtain rfl:u=Value.ref a:=rx
  obtain ⟨vs,hx⟩:=ea.get I1.hok
  obtain ⟨od,mA,h1,h2,r⟩:=qeU I1 hd
  obtain ⟨u',hu,ru⟩:=RelO.some_of (v:=v) (o:=mA f) (by rw [← l];exact r f)
  exact xget I1.kIn (od:=some od) ⟨hx,rfl,rfl,h1⟩ c (PySem.W.findObj_own c.hd n rfl (by rw [h2,hu])) (qb7 ru) ⟨v,H1,I1.tok _,ru,q⟩
theorem zw (hK:X.K=K) (ha:PE X o ta) (hv:PE X value tv) (hs:swapsWith value (some (.Attribute o f pos')) pos.line X.env=pure false):PS X (.Assign [.Attribute o f pos'] value pos) (qf1 K ta tv f):=by
 subst hK
 intro pins s σ H D I h
 refine plainObj_wpAny_Assign_Attribute (thn (hv pins s σ H _ I h) fun u s1 ⟨y,H1,I1,ry,q⟩=>thn (ha pins s1 σ H1 _ I1 q) fun ov s2 ⟨x,H2,I2,rx,hx⟩=>?_) hs
 rcases hx with ⟨a,C,dx,fs,rfl,ea,c,n,l,q2⟩ | ⟨a,C,rfl,ea,c,n,q2⟩
 ·obtain rfl:ov=Value.ref a:=rx
  exact setattr_ok I2 ea c n l ry fun s3 I3=>⟨σ,_,I3,q2⟩
 ·obtain rfl:ov=Value.ref a:=rx
  obtain ⟨⟨a0,hx⟩,_⟩:=(show ObjOk X.prog X.w H2 s2.heap a (XN a C none) from I2.hok a _ ea)
  refine xset I2.kIn hx c n fun h' g1 g2 g3=>?_
  have nd:H2 s2.heap.objs.size=none:=I2.hok.fresh (yh _)
  have ne:s2.heap.objs.size≠a:=Nat.ne_of_gt (Heap.lt_size hx)
  refine ⟨σ,_,I2.both (o:=XN a C (some s2.heap.objs.size)) (u:=.xd [(f,y)]) (by rw [ea];exact True.intro) (yh _) g3 ⟨_,g1⟩ (XN.ok g1) ⟨_,g2,fun g=>?_⟩ ne,q2 _ nd⟩
  by_cases hg:g=f
  ·subst hg
   simp only [List.lookup,beq_self_eq_true,if_true]
   exact ry
  ·have hb:(g==f)=false:=beq_eq_false_iff_ne.mpr hg
   simp only [List.lookup,hb,if_neg hg]
   exact True.intro
end
def qd1 (C:Addr) (sp:Sp) (E:XK) (t:TA):TE:=fun σ H Q=>t σ H fun vs H1=>vs.length≤1000∧∀ x,H1 x=none→sp (.ref x::vs) (upd H1 x (XN x C none)) (fun v H2=>v=.non∧Q (.ref x) H2) E
structure XMk (K:yg) (C f:Addr):Prop where
 at_:XAt K C
 init:PySem.W.findIn K (.ref C) "__init__"=some (some (.ref f))
 fn:PySem.W.isFn K (.ref f)=true
 kp:PySem.W.keepIn K (.ref C)=true
section
variable {X:Cx} {CX:CXT} {k:Nat} {f C:Addr} {fd:FuncData} {ps:List Str} {sp:Sp} {E:XK} {x m:Str} {p pos apos:Pos} {e o:Expr} {es:List Expr} {ta:TE} {t:TA}
theorem run_xmake {pins:List (Addr×Obj)} {σ:St} {H:Hp} {s:Shared} {Q:VK} {us:List Value} {vs:List V} (M:XMk X.K C f) (F:FnOk X.prog X.w X.K X.mg X.base CX k f fd ps sp) (hr:Room (k + 1) X.A) (hb:Binds X.K fd ps [])
  (hx:qad CX X E) (I:Inv X pins σ H s) (r:Vals vs us) (hl0:vs.length≤1000) (h:∀ x,H x=none→sp (.ref x::vs) (upd H x (XN x C none)) (fun v H2=>v=.non∧Q (.ref x) H2) E) :
  wpAny (model X.prog X.w) X.A (call (.ref C) us) (EP X pins σ Q) X.xe s:=by
 have hq:=h (s.heap.objs.size + 1) (I.hok.fresh (Nat.le_succ _))
 have up:∀ b o,s.heap.get? b=some o→((s.heap.push { cls:=.type "tuple",data:=.seq us.toArray }).push { cls:=.ref C,data:=.fields (xfs s.heap.objs.size) }).get? b=some o:=fun b o q=>Heap.get?_push_of_some _ (Heap.get?_push_of_some _ q)
 have hget:((s.heap.push { cls:=.type "tuple",data:=.seq us.toArray }).push { cls:=.ref C,data:=.fields (xfs s.heap.objs.size) }).get? (s.heap.objs.size + 1)=some ⟨.ref C,none,.fields (xfs s.heap.objs.size),#[]⟩:=Heap.get?_push_at (by rw [Heap.size_push]) rfl
 have I2:=I.laid (a:=s.heap.objs.size + 1) (o:=XN (s.heap.objs.size + 1) C none) (t':=s.toks) up (Nat.le_succ _) (XN.ok hget)
 have r2:Vals (V.ref (s.heap.objs.size + 1)::vs) (Value.ref (s.heap.objs.size + 1)::us):=.cons rfl r
 have hl:(Value.ref (s.heap.objs.size + 1)::us++[]).length=ps.length:=by
  have q:=r2.length
  rw [F.len _ _ _ _ hq] at q
  rw [List.append_nil]
  exact q.symm
 have hus:us.length≤sizeLine:=by rw [← r.length];exact Nat.le_of_lt (qk hl0)
 refine xcall I.kIn M.at_ M.init M.fn hus (wpAny_call (codeAny_mono (F.run _ X.stack _ _ ⟨Value.ref (s.heap.objs.size + 1)::us,[]⟩ (Value.ref (s.heap.objs.size + 1)::us) _ _ E (hr.make C us [])
  (I2.env0.make C us []) (by have z:=hb _ (Value.ref (s.heap.objs.size + 1)::us) I2.kIn hl;rw [List.append_nil] at z;exact z) r2 hq) fun r s' hq'=>?_))
 cases r with
 | error e=>exact hx pins σ _ _ e s' I2 hq'
 | ok fl =>
  cases fl with
  | ret u =>
   obtain ⟨v,H',I3,rv,ev,q3⟩:=I2.after hq'
   subst ev
   exact ⟨rv,⟨V.ref (s.heap.objs.size + 1),H',I3,rfl,q3⟩⟩
  | next=>exact False.elim hq'
  | brk=>exact False.elim hq'
  | cont=>exact False.elim hq'
theorem pe_xmake (M:XMk X.K C f) (F:FnOk X.prog X.w X.K X.mg X.base CX k f fd ps sp) (hr:Room (k + 1) X.A) (hg:Gl X x) (hm:X.mg x=some (.ref C)) (hb:Binds X.K fd ps []) (hx:qad CX X E)
  (ha:PA X (e::es) t) (hdb:(x==("__debug__":Str))=false:=by decide) (he:starEach (e::es) X.env=(false,eval e X.env)::starEach es X.env:=by rfl) (hpl:(backTo pos (starEach es X.env)).any (·.1)=false:=by rfl) :
  PE X (.Call (.Name x p) (e::es) [] pos) (qd1 C sp E t):=by
 intro pins s σ H Q I h
 refine wpAny_Call_Name_kw (qaa I hg hm ?_ hdb)
 refine PySem.W.callWith_K (h₀:=X.base) I.ok.mod.kin M.kp (thn (ha pos pins s σ H _ I h) fun us s1 ⟨vs,H1,I1,r,z,q⟩=>⟨I1.kIn,?_⟩) he hpl
 exact run_xmake M F hr hb hx I1 r z q
structure CMeth (K:yg) (C:Addr) (m:Str) (f:Addr):Prop where
 rd:PySem.W.readsIn K C (.type "type")=true
 at_:PySem.W.findCls K (.ref C) (.type "type") m=some (.val (.ref f))
 ga:PySem.W.specialIn K (.ref C) "__getattribute__"=some (some (.builtin "type.__getattribute__"))
 kp:PySem.W.keepIn K (.ref f)=true
theorem pe_clsm {pl:Sem Bool} (M:CMeth X.K C m f) (F:FnOk X.prog X.w X.K X.mg X.base CX k f fd ps sp) (hr:Room k X.A) (hg:Gl X x) (hm:X.mg x=some (.ref C)) (hb:Binds X.K fd ps []) (hx:qad CX X E) (ha:PA X (e::es) t)
  (hdb:(x==("__debug__":Str))=false:=by decide) (hst:starEach (e::es) X.env=(false,eval e X.env)::starEach es X.env:=by rfl) (hpl:(backTo pos (starEach es X.env)).any (·.1)=false:=by rfl)
  (ht:eval (.Call (.Attribute (.Name x p) m apos) (e::es) [] pos) X.env=(do
   let ov ← eval (.Name x p) X.env
   standAt apos.atName
   let (f,first) ← holding [ov] (getMethod ov m pl)
   callWith pos f first (backTo pos (starEach (e::es) X.env)) (backToKw pos (keywordEach [] X.env))):=by rfl) :
  PE X (.Call (.Attribute (.Name x p) m apos) (e::es) [] pos) (qcE sp [] E t):=by
 intro pins s σ H Q I h
 refine PySem.W.methodCall_KW (pl:=pl) (qaa I hg hm ?_ hdb) ht
 refine PySem.W.method_cls I.kIn M.ga (PySem.W.cls_value I.kIn M.rd M.at_ rfl ?_)
 refine PySem.W.callWith_K (first:=[]) (h₀:=X.base) I.ok.mod.kin M.kp (thn (ha pos pins _ σ H _ (I.tok (s.toks + 1)) h) fun us s2 ⟨vs,H2,I2,r,q2⟩=>⟨I2.kIn,?_⟩) hst hpl
 exact qc2 F hr hb .nil hx I2 r q2
end
def qeV (K:yg) (t:TA):TE:=fun σ H Q=>t σ H fun vs H1=>∃ a C y,vs=[.ref a,y]∧H1 a=some (XN a C none)∧XAt K C∧Q .non H1
theorem ve_type {M:Model} {h:Heap}:PySem.W.Looks M h (typeOf (.type "ValueError")) (.type "type"):=PySem.W.Looks.of_pure (by kernel_rfl)
theorem ve_opaque {M:Model} {h:Heap}:PySem.W.Looks M h (opaqueClassAbove (.type "ValueError")) none:=PySem.W.Looks.of_pure (by kernel_rfl)
structure VInit (K:yg):Prop where
 ga:PySem.W.findIn K (.type "type") "__getattribute__"=some (some (.builtin "type.__getattribute__"))
 su:PySem.W.subIn K (.type "type") (.type "type")=some true
 at_:PySem.W.findCls K (.type "ValueError") (.type "type") "__init__"=some (.val (.builtin "ValueError.__init__"))
section
variable {X:Cx} {p pos apos:Pos} {e:Expr} {es:List Expr} {t:TA} {K:yg}
theorem k_vinit {pl:Sem Bool} (hK:X.K=K) (V:VInit K) (hg:Gl X "ValueError") (hm:X.mg "ValueError"=none) (hv:bootBuiltins "ValueError"=some (.type "ValueError")) (ha:PA X (e::es) t)
  (hst:starEach (e::es) X.env=(false,eval e X.env)::starEach es X.env:=by rfl) (hpl:(backTo pos (starEach es X.env)).any (·.1)=false:=by rfl)
  (ht:eval (.Call (.Attribute (.Name "ValueError" p) "__init__" apos) (e::es) [] pos) X.env=(do
   let ov ← eval (.Name "ValueError" p) X.env
   standAt apos.atName
   let (f,first) ← holding [ov] (getMethod ov "__init__" pl)
   callWith pos f first (backTo pos (starEach (e::es) X.env)) (backToKw pos (keywordEach [] X.env))):=by rfl) :
  PE X (.Call (.Attribute (.Name "ValueError" p) "__init__" apos) (e::es) [] pos) (qeV K t):=by
 subst hK
 intro pins s σ H Q I h
 refine PySem.W.methodCall_KW (pl:=pl) (qaC I hg hm hv ?_) ht
 have hgm:∀ {Q':Value×List Value→Shared→Prop},Q' (.builtin "ValueError.__init__",[]) { s with toks:=s.toks + 1 }→wpAny (model X.prog X.w) X.A (getMethod (.type "ValueError") "__init__" pl) Q' X.xe s:=fun {Q'} q=>by
  unfold getMethod
  refine wpAny_bind ((ve_type.andThen (PySem.W.looks_findIn I.kIn V.ga)).here ?_)
  dsimp only
  rw [if_pos PySem.W.canon_tga]
  refine wpAny_bind (PySem.W.cls_open (hook:=none) I.kIn ve_opaque ve_type V.ga (PySem.W.Looks.now) V.su V.at_ (wpAny_pure ?_))
  show wpAny _ _ (handedOut _) _ _ _
  exact PySem.W.handed_on rfl (wpAny_pure q)
 refine hgm ?_
 have hA:=ha pos pins _ σ H _ (I.tok (s.toks + 1)) h
 rw [hst] at hA ⊢
 refine Calls.callWith_builtin (by show (false||(backTo pos (starEach es X.env)).any (·.1))=false;rw [hpl]<;>rfl) (Calls.evalArgs_plain ?_)
 refine thn hA fun us s2 ⟨vs,H2,I2,r2,a,C,y,e1,ea,c,q⟩=>?_
 subst e1
 obtain ⟨u,v,rfl,ru,rv⟩:=qew r2
 cases ru
 obtain ⟨⟨a0,hx⟩,_⟩:=(show ObjOk X.prog X.w H2 s2.heap a (XN a C none) from I2.hok a _ ea)
 refine xbase_init I2.kIn hx c fun h' a1 g1 g2=>?_
 have J:=I2.write (x:=a) (e:=a) (o:=XN a C none) (t':=s2.toks) (by rw [ea];exact True.intro) (.inl rfl) g2 ⟨_,g1⟩ (XN.ok g1)
 rw [upd_id ea] at J
 exact ⟨.non,H2,J,rfl,q⟩
end
structure Keep (fs zs:List Addr) (h h':Heap):Prop where
 keep:∀ b o,h.get? b=some o→b∉zs→b∉fs→h'.get? b=some o
 slot:∀ b o,h.get? b=some o→b∉zs→b∈fs→∃ sl,h'.get? b=some { o with slots:=sl }
structure Trc (h:Heap) (e:Addr) (C:Value) (dx:Option Addr) (T:Addr) (fl:Value):Prop where
 ex:∃ vs,h.get? e=some ⟨C,dx,.fields vs,#[]⟩∧vs[1]?=some (.ref T)∧vs[2]?=some .none
 tb:∃ ts,h.get? T=some ⟨.type "traceback",none,.fields ts,#[]⟩∧ts[3]?=some fl
 ne:T≠e
section
variable {M:Model} {A:Around} {E:Value→Shared→Prop} {s:Shared} {base:Heap} {env:Env} {outer:List Env} {L e:Addr} {C:Value} {dx:Option Addr} {vs:Array Value}
theorem qeW {head:Value} {had:Bool} {Q:Unit→Shared→Prop} (hfr:A.frames=some (env::outer)) (hl:s.heap.FunFrames base (env::outer)) (hf:env.frame=some L) (he:s.heap.get? e=some ⟨C,dx,.fields vs,#[]⟩) (hsz:1 < vs.size) (h2:vs[2]?=some .none)
  (h:∀ h' T,s.heap.objs.size≤T→Trc h' e C dx T (rawInt L)→Keep (frs (env::outer)) [e] s.heap h'→Q () { s with heap:=h' }) :
  wpAny M A (do let a ← frameOf env;let pl ← entryPlaceOf L had;let b ← EntryCells.newEntry head a .none (rawInt L) .none pl;setField (.ref e) 1 b) Q E s:=by
 have hene:e∉frs (env::outer):=fun hm=>by
  obtain ⟨_,o,ho,hnf⟩:=hl.mem hm
  rw [he] at ho
  cases ho
  exact hnf vs rfl
 refine wpAny_bind (wpAny_frameOf_fun hfr hl hf fun h₁ hs=>wpAny_bind (wpAny_entryPlaceOf fun pl hpl=>?_))
 unfold EntryCells.newEntry newFields
 refine wpAny_bind (wpAny_newObj_type ?_ (hpl.sizeOk5 _ _ _ _ _))
 have he1:h₁.get? e=some ⟨C,dx,.fields vs,#[]⟩:=(hs.2.1 e hene).trans he
 generalize hts:([head,.ref L,.none,rawInt L,.none]++(if pl.isEmpty then List.replicate 6 Value.none else pl)).toArray=ts
 have h3:ts[3]?=some (rawInt L):=by rw [← hts];first | (simp;done) | (rcases hpl with rfl | ⟨_,_,_,_,_,_,_,rfl⟩<;>simp)
 have he2:=Heap.get?_push_of_some (h:=h₁) { cls:=.type "traceback",dict:=none,data:=.fields ts } he1
 have hTe:h₁.objs.size≠e:=Nat.ne_of_gt (Heap.lt_size he1)
 refine wpAny_setField he2 rfl hsz (h _ h₁.objs.size (Nat.le_of_eq hs.1.symm) ⟨⟨vs.setIfInBounds 1 (.ref h₁.objs.size),?_,by simp [hsz],by rw [Array.getElem?_setIfInBounds_ne (by decide)];exact h2⟩,⟨ts,?_,h3⟩,hTe⟩ ⟨fun b o q hb hn=>?_,fun b o q hb hn=>?_⟩)
 ·rw [Heap.get?_update_self _ he2 rfl]
  rfl
 ·rw [Heap.get?_update_other _ _ (Ne.symm hTe)]
  exact Heap.get?_push_size h₁ rfl
 ·have hbe:b≠e:=fun z=>hb (by simp [z])
  rw [Heap.get?_update_other _ _ (Ne.symm hbe)]
  exact Heap.get?_push_of_some _ ((hs.2.1 b hn).trans q)
 ·have hbe:b≠e:=fun z=>hb (by simp [z])
  obtain ⟨sl,z⟩:=hs.2.2 b o q
  exact ⟨sl,by rw [Heap.get?_update_other _ _ (Ne.symm hbe)];exact Heap.get?_push_of_some _ z⟩
theorem qcl {Q:Unit→Shared→Prop} (hfr:A.frames=some (env::outer)) (hl:s.heap.FunFrames base (env::outer)) (hf:env.frame=some L) (he:s.heap.get? e=some ⟨C,dx,.fields vs,#[]⟩) (h1:vs[1]?=some .none) (h2:vs[2]?=some .none)
  (h:∀ h' T,s.heap.objs.size≤T→Trc h' e C dx T (rawInt L)→Keep (frs (env::outer)) [e] s.heap h'→Q () { s with heap:=h' }):wpAny M A (noteFrame (.ref e) env) Q E s:=by
 unfold noteFrame
 simp only [hf]
 refine wpAny_bind (wpAny_field he rfl h1 ?_)
 rw [if_neg (by decide)]
 exact qeW hfr hl hf he (Array.getElem?_eq_some_iff.mp h1).1 h2 h
theorem qdc {T:Addr} {Q:Unit→Shared→Prop} (hfr:A.frames=some (env::outer)) (hl:s.heap.FunFrames base (env::outer)) (hf:env.frame=some L) (t:Trc s.heap e C dx T .none)
  (h:∀ h' T',s.heap.objs.size≤T'→Trc h' e C dx T' (rawInt L)→Keep (frs (env::outer)) [e,T] s.heap h'→Q () { s with heap:=h' }):wpAny M A (noteFrame (.ref e) env) Q E s:=by
 obtain ⟨⟨vs,he,h1,h2⟩,⟨ts,hT,h3⟩,hne⟩:=t
 unfold noteFrame
 simp only [hf]
 refine wpAny_bind (wpAny_field he rfl h1 ?_)
 rw [if_pos (show (Value.ref T != Value.none)=true from by simp)]
 refine wpAny_bind (wpAny_field hT rfl h3 ?_)
 rw [if_neg (show ¬ ((Value.none==rawInt L)=true) from by simp [rawInt])]
 refine wpAny_bind (wpAny_setField hT rfl (Array.getElem?_eq_some_iff.mp h3).1 ?_)
 have other:∀ b,b≠T→(s.heap.update T (Obj.mapFields (·.setIfInBounds 3 Value.none))).get? b=s.heap.get? b:=fun b hb=>Heap.get?_update_other _ _ (Ne.symm hb)
 have szu:(s.heap.update T (Obj.mapFields (·.setIfInBounds 3 Value.none))).objs.size=s.heap.objs.size:=Heap.size_after_update ..
 refine qeW (s:={ s with heap:=s.heap.update T (Obj.mapFields (·.setIfInBounds 3 Value.none)) }) hfr (hl.of_keeps fun b o hb hnf=>?_) hf ((other e (Ne.symm hne)).trans he) (Array.getElem?_eq_some_iff.mp h1).1 h2 fun h' T' hs t' k=>?_
 ·have nb:b≠T:=fun q=>by rw [q,hT] at hb;cases hb;exact hnf ts rfl
  exact ⟨o,(other b nb).trans hb,rfl⟩
 ·refine h h' T' (by rw [← szu];exact hs) t' ⟨fun b o q hb hn=>?_,fun b o q hb hn=>?_⟩
  ·have nb:b≠T:=fun z=>hb (by simp [z])
   exact k.keep b o ((other b nb).trans q) (fun z=>hb (by simp only [List.mem_singleton] at z;simp [z])) hn
  ·have nb:b≠T:=fun z=>hb (by simp [z])
   exact k.slot b o ((other b nb).trans q) (fun z=>hb (by simp only [List.mem_singleton] at z;simp [z])) hn
theorem qbP {T:Addr} {fl:Value} {Q:Unit→Shared→Prop} (t:Trc s.heap e C dx T fl) (h:∀ h',Trc h' e C dx T .none→(∀ b o,b≠T→s.heap.get? b=some o→h'.get? b=some o)→h'.objs.size=s.heap.objs.size→Q () { s with heap:=h' }) :
  wpAny M A (setFlight (.ref e) none) Q E s:=by
 obtain ⟨⟨vs,he,h1,h2⟩,⟨ts,hT,h3⟩,hne⟩:=t
 have h3':3 < ts.size:=(Array.getElem?_eq_some_iff.mp h3).1
 unfold setFlight
 refine wpAny_bind (wpAny_field he rfl h1 ?_)
 rw [if_pos (show (Value.ref T != Value.none)=true from by simp)]
 refine wpAny_setField hT rfl h3' (h _ ⟨⟨vs,?_,h1,h2⟩,⟨ts.setIfInBounds 3 .none,?_,by simp [h3']⟩,hne⟩ (fun b o hb q=>?_) (Heap.size_after_update ..))
 ·rw [Heap.get?_update_other _ _ hne]
  exact he
 ·rw [Heap.get?_update_self _ hT rfl]
  rfl
 ·rw [Heap.get?_update_other _ _ (Ne.symm hb)]
  exact q
end
def CX1 (P:Program) (w:World):CXT:=fun outer H s E ev s'=>∃ (a C:Addr) (dx:Option Addr) (T:Addr) (H':Hp),ev=.ref a∧s'.os=s.os∧AllBare s'.gens∧Un (frs outer) [] H H' s.heap s'.heap∧HOk P w H' s'.heap ∧
 H' a=some (XO a C dx)∧Trc s'.heap a (.ref C) dx T .none∧s.heap.objs.size≤T∧H' T=none∧E (.ref C) dx H'
section
variable {X:Cx} {pins:List (Addr×Obj)} {σ:St} {H:Hp} {s:Shared}
theorem qbQ {a C T:Addr} {dx:Option Addr} {h':Heap} {fl:Value} {zs:List Addr} (I:Inv X pins σ H s) (ha:H a=some (XO a C dx)) (k:Keep (frs X.stack) zs s.heap h') (hz:∀ b∈zs,b=a∨H b=none) (t:Trc h' a (.ref C) dx T fl):HOk X.prog X.w H h':=fun b u e=>by
 by_cases hb:b=a
 ·subst hb
  rw [ha] at e
  cases e
  obtain ⟨vs,q,_⟩:=t.ex
  exact XO.ok q
 ·have nz:∀ c o,H c=some o→c≠a→c∉zs∧c∉frs X.stack:=fun c o q n=>⟨fun z=>(hz c z).elim n fun y=>(by rw [y] at q;cases q),fun z=>(by have y:=I.stkFree c z;rw [y] at q;cases q)⟩
  refine (I.hok b u e).stay (fun c v hc r=>?_) (fun _ q=>q) fun _ _ q=>q
  rcases hc with rfl | hc
  ·exact k.keep c v r (nz c _ e hb).1 (nz c _ e hb).2
  ·have n:c≠a:=fun z=>by rw [z,ha] at hc;cases hc
   exact k.keep c v r (nz c _ hc n).1 (nz c _ hc n).2
theorem qeX {a C T:Addr} {dx:Option Addr} {h':Heap} {fl:Value} {zs:List Addr} (I:Inv X pins σ H s) (hex:X.ex=[]) (ha:H a=some (XO a C dx)) (k:Keep (frs X.stack) zs s.heap h') (hz:∀ b∈zs,b=a∨X.s₀.heap.objs.size≤b) (t:Trc h' a (.ref C) dx T fl) :
  Un X.fs [] X.H₀ H X.s₀.heap h':=by
 have B:=I.base
 rw [hex] at B
 have low:∀ b o,X.s₀.heap.get? b=some o→b≠X.env.locals:=fun b o e=>Nat.ne_of_lt (yj (Heap.lt_size e) I.ok.above)
 have nz:∀ b o,X.s₀.heap.get? b=some o→b≠a→b∉zs:=fun b o e n z=>(hz b z).elim n fun y=>absurd (yj (Heap.lt_size e) y) (Nat.lt_irrefl _)
 have na:∀ b,H b=none→b≠a:=fun b n z=>by rw [z,ha] at n;cases n
 have nfs:∀ b o,X.s₀.heap.get? b=some o→b∉X.fs→b∉frs X.stack:=fun b o e n z=>(List.mem_cons.mp (I.stkSub b z)).elim (low b o e) n
 refine ⟨fun b o e n hb hx=>?_,fun b o e n hb hx=>?_,B.free,fun b o e hx=>?_,B.tups,B.frzs,B.tbls⟩
 ·exact k.keep b o (B.keep b o e n hb hx) (nz b o e (na b (B.free b o e n hx))) (nfs b o e hb)
 ·obtain ⟨sl,q⟩:=B.slot b o e n hb hx
  have zz:=nz b o e (na b (B.free b o e n hx))
  by_cases hs:b∈frs X.stack
  ·obtain ⟨sl2,q2⟩:=k.slot b _ q zz hs
   exact ⟨sl2,q2⟩
  ·exact ⟨sl,k.keep b _ q zz hs⟩
 ·obtain ⟨o',q⟩:=B.there b o e hx
  by_cases hb:b=a
  ·subst hb
   obtain ⟨vs,z,_⟩:=t.ex
   exact ⟨_,z⟩
  ·have zz:=nz b o e hb
   by_cases hs:b∈frs X.stack
   ·obtain ⟨sl2,q2⟩:=k.slot b _ q zz hs
    exact ⟨_,q2⟩
   ·exact ⟨o',k.keep b _ q zz hs⟩
end
structure XOk (X:Cx) (EK:St→XK):Prop where
 pass:∀ (pins:List (Addr×Obj)) (σ:St) (H:Hp) (s:Shared) (e:Value) (s':Shared),Inv X pins σ H s→CX1 X.prog X.w X.stack H s (EK σ) e s'→X.xe e s'
 rais:∀ (pins:List (Addr×Obj)) (σ:St) (H:Hp) (s:Shared) (a C:Addr) (dx:Option Addr),Inv X pins σ H s→H a=some (XN a C dx)→EK σ (.ref C) dx (upd H a (XO a C dx))→X.xe (.ref a) s
 calm:X.calm=true
section
variable {P:Program} {w:World} {K:yg} {mg:Str→Option Value} {base:Heap} {N:List Str} {qual:Str} {scope:Scope} {f:Addr} {cd:Value} {A:Around} {outer:List Env} {s0:Shared} {H0:Hp} {E:XK}
theorem jl:XOk (qdF (CX1 P w) P w K mg base N qual scope f cd A outer s0 H0 E) fun _=>E where
 calm:=rfl
 pass:=by
  intro pins σ H s ev s' I hx
  obtain ⟨a,C,dx,T,H',rfl,hos,hbr,un,hok,ha,t,hT,hTn,q⟩:=hx
  have J:=I.call' (s':=s') (H':=H') (ch:=[]) hos un hok hbr (fun b z=>absurd z (by simp))
  show wpAny _ _ (leaving _ _) _ _ _
  unfold leaving
  refine wpAny_bind (qdc (base:=base) J.ok.frames J.stack rfl t fun h' T' hs t' k=>?_)
  refine qbP (s:={ s' with heap:=h' }) t' fun h2 t2 k2 sz2=>?_
  have hz0:s0.heap.objs.size≤s.heap.objs.size:=I.sz
  have J2:=J.sz
  have kk:Keep (frs (envOfC qual scope s0.heap.objs.size f cd::outer)) [a,T,T'] s'.heap h2:=by
   refine ⟨fun b o e z n=>?_,fun b o e z n=>?_⟩
   ·simp only [List.mem_cons,List.not_mem_nil,or_false,not_or] at z
    exact k2 b o z.2.2 (k.keep b o e (by simp [z.1,z.2.1]) n)
   ·simp only [List.mem_cons,List.not_mem_nil,or_false,not_or] at z
    obtain ⟨sl,y⟩:=k.slot b o e (by simp [z.1,z.2.1]) n
    exact ⟨sl,k2 b _ z.2.2 y⟩
  have nT':H' T'=none:=J.hok.fresh hs
  refine ⟨a,C,dx,T',H',rfl,J.os,hbr,qeX J rfl ha kk (fun b hb=>?_) t2,qbQ J ha kk (fun b hb=>?_) t2,ha,t2,yi J2 hs,nT',q⟩
  ·simp only [List.mem_cons,List.not_mem_nil,or_false] at hb
   rcases hb with rfl | rfl | rfl
   ·exact .inl rfl
   ·exact .inr (yi hz0 hT)
   ·exact .inr (yi J2 hs)
  ·simp only [List.mem_cons,List.not_mem_nil,or_false] at hb
   rcases hb with rfl | rfl | rfl
   ·exact .inl rfl
   ·exact .inr hTn
   ·exact .inr nT'
 rais:=by
  intro pins σ H s a C dx I e q
  obtain ⟨⟨a0,hx⟩,_⟩:=(show ObjOk _ _ H s.heap a (XN a C dx) from I.hok a _ e)
  have J:Inv _ pins σ (upd H a (XO a C dx)) s:=I.write (x:=a) (e:=a) (o:=XO a C dx) (h':=s.heap) (t':=s.toks) (by rw [e];exact True.intro) (.inl rfl) (fun _ _ _ q=>q) ⟨_,hx⟩ (XO.ok hx)
  show wpAny _ _ (leaving _ _) _ _ _
  unfold leaving
  refine wpAny_bind (qcl (base:=base) J.ok.frames J.stack rfl hx rfl rfl fun h' T' hs t' k=>?_)
  refine qbP (s:={ s with heap:=h' }) t' fun h2 t2 k2 sz2=>?_
  have J2:=J.sz
  have ha:upd H a (XO a C dx) a=some (XO a C dx):=qc
  have kk:Keep (frs (envOfC qual scope s0.heap.objs.size f cd::outer)) [a,T'] s.heap h2:=by
   refine ⟨fun b o e z n=>?_,fun b o e z n=>?_⟩
   ·simp only [List.mem_cons,List.not_mem_nil,or_false,not_or] at z
    exact k2 b o z.2 (k.keep b o e (by simp [z.1]) n)
   ·simp only [List.mem_cons,List.not_mem_nil,or_false,not_or] at z
    obtain ⟨sl,y⟩:=k.slot b o e (by simp [z.1]) n
    exact ⟨sl,k2 b _ z.2 y⟩
  have nT':upd H a (XO a C dx) T'=none:=J.hok.fresh hs
  refine ⟨a,C,dx,T',_,rfl,J.os,J.bare,qeX J rfl ha kk (fun b hb=>?_) t2,qbQ J ha kk (fun b hb=>?_) t2,ha,t2,yi J2 hs,nT',q⟩
  ·simp only [List.mem_cons,List.not_mem_nil,or_false] at hb
   rcases hb with rfl | rfl
   ·exact .inl rfl
   ·exact .inr (yi J2 hs)
  ·simp only [List.mem_cons,List.not_mem_nil,or_false] at hb
   rcases hb with rfl | rfl
   ·exact .inl rfl
   ·exact .inr nT'
end
def qeY (K:yg) (EK:St→XK) (te:TE):TS:=fun _ σ H=>te σ H fun x H1=>∃ a C dx,x=.ref a∧H1 a=some (XN a C dx)∧XAt K C∧EK σ (.ref C) dx (upd H1 a (XO a C dx))
section
variable {X:Cx} {EK:St→XK} {e:Expr} {te:TE} {pos:Pos} {K:yg}
theorem xraise {M:Model} {A:Around} {E:Value→Shared→Prop} {env:Env} {s:Shared} {x:Sem Value} {Q:Flow→Shared→Prop} (hh:A.handled=none)
  (h:wpAny M A x (fun v s1=>∃ a C dx a0,v=.ref a∧K.In s1.heap∧XAt K C∧s1.heap.get? a=some ⟨.ref C,dx,.fields (xfs a0),#[]⟩∧E (.ref a) s1) E s):wpAny M A (raiseStmt env (some x) none) Q E s:=by
 unfold raiseStmt
 refine wpAny_bind (wpAny_mono h (fun v s1 h1=>?_) fun _ _ z=>z)
 obtain ⟨a,C,dx,a0,rfl,kin,c,he,hE⟩:=h1
 obtain ⟨nm,qn,N,bs,bm,hdct,sn,sub,ab,col,dd,k0,k1,k2,k3,k5,hC,hm⟩:=qc9 kin c.xc
 have hcB:(Value.ref C::bm).contains (.type "BaseException")=true:=by rw [List.contains_cons,qaJ hm (by simp),Bool.or_true]
 obtain ⟨hp,g,d,tk,os⟩:=s1
 repeat (first | with_reducible refine wpAny_loadPart_at he ?_ | with_reducible refine wpAny_loadPart_at hC ?_ | (with_reducible refine wpAny_isSubtype_exc hC ?_;rw [hcB]) | wp_step)
 exact wpAny_raiseNew_none hh hE
theorem zl (hK:X.K=K) (XX:XOk X EK) (he:PE X e te):PS X (.Raise (some e) none pos) (qeY K EK te):=by
 subst hK
 intro pins s σ H D I h
 rw [arm_exec_Raise]
 refine wpAny_bind (wpAny_standAt (xraise (K:=X.K) (I.ok.hd XX.calm) ?_))
 refine wpAny_bind (thn (he pins s σ H _ I h) fun v s1 ⟨x,H1,I1,rx,a,C,dx,ex,ea,c,q⟩=>wpAny_bind (wpAny_standAt (wpAny_pure ?_)))
 subst ex
 cases rx
 obtain ⟨⟨a0,hx⟩,_⟩:=(show ObjOk _ _ H1 s1.heap a (XN a C dx) from I1.hok a _ ea)
 exact ⟨a,C,dx,a0,rfl,I1.kIn,c,hx,XX.rais pins σ H1 s1 a C dx I1 ea q⟩
end
def qeZ (sp:Sp) (EK:St→XK) (t:TA):TE:=fun σ H Q=>t σ H fun vs H1=>sp vs H1 Q (EK σ)
def qe0 (C:Addr) (m:Str) (sp:Sp) (EK:St→XK) (ta:TE) (t:TA):TE:=fun σ H Q=>ta σ H fun x H1=>∃ a dx fs,x=.ref a∧H1 a=some (.ins C dx fs)∧fs.lookup m=none∧t σ H1 fun vs H2=>sp (x::vs) H2 Q (EK σ)
def tMakeS (C:Addr) (sp:Sp) (EK:St→XK) (t:TA):TE:=fun σ H Q=>t σ H fun vs H1=>∀ x dx,H1 x=none→H1 dx=none→dx≠x →
 sp (.ref x::vs) (upd (upd H1 dx (.own x)) x (.ins C dx [])) (fun v H2=>v=.non∧Q (.ref x) H2) (EK σ)
theorem FnOk.quiet {P:Program} {w:World} {K:yg} {mg:Str→Option Value} {base:Heap} {k:Nat} {f:Addr} {fd:FuncData} {ps:List Str} {sp:Sp} (F:FnOk P w K mg base (CX1 P w) k f fd ps sp) :
  FnOk P w K mg base CX0 k f fd ps (fun vs H Q _=>sp vs H Q E0):=by
 refine ⟨fun vs H Q E h=>F.len vs H Q E0 h,fun A outer s H args us vs Q E hr he hb hv hs=>codeAny_mono (F.run A outer s H args us vs Q E0 hr he hb hv hs) fun r s' q=>?_⟩
 cases r with
 | ok fl=>cases fl<;>exact q
 | error e =>
  obtain ⟨_,_,_,_,_,_,_,_,_,_,_,_,_,_,z⟩:=q
  exact z.elim
structure MethOk (P:Program) (w:World) (K:yg) (mg:Str→Option Value) (base:Heap) (CX:CXT) (k:Nat) (C:Addr) (m:Str) (ps:List Str) (sp:Sp):Prop where
 ex:∃ f fd,FnOk P w K mg base CX k f fd ps sp∧Meth K C m f∧Binds K fd ps []
 cl:Cls K C
structure MakeOk (P:Program) (w:World) (K:yg) (mg:Str→Option Value) (base:Heap) (CX:CXT) (k:Nat) (C:Addr) (x:Str) (ps:List Str) (sp:Sp):Prop where
 ex:∃ f fd,FnOk P w K mg base CX k f fd ps sp∧Mk K C f∧Binds K fd ps []
 mg_:mg x=some (.ref C)
structure XMakeOk (P:Program) (w:World) (K:yg) (mg:Str→Option Value) (base:Heap) (k:Nat) (C:Addr) (x:Str) (ps:List Str) (sp:Sp):Prop where
 ex:∃ f fd,FnOk P w K mg base CX0 k f fd ps sp∧XMk K C f∧Binds K fd ps []
 mg_:mg x=some (.ref C)
section
variable {X:Cx} {EK:St→XK} {k:Nat} {f C:Addr} {fd:FuncData} {ps:List Str} {sp:Sp} {x m:Str} {p pos apos:Pos} {e o:Expr} {es:List Expr} {ta:TE} {t:TA}
theorem qd2 {pins:List (Addr×Obj)} {σ:St} {H:Hp} {s:Shared} {Q:VK} {us:List Value} {vs:List V} (F:FnOk X.prog X.w X.K X.mg X.base (CX1 X.prog X.w) k f fd ps sp) (hr:Room k X.A) (hb:Binds X.K fd ps []) (XX:XOk X EK)
  (I:Inv X pins σ H s) (r:Vals vs us) (h:sp vs H Q (EK σ)):wpAny (model X.prog X.w) X.A (call (.ref f) us) (EP X pins σ Q) X.xe s:=by
 have hl:(us++[]).length=ps.length:=by rw [List.append_nil,← r.length];exact F.len _ _ _ _ h
 have b:=hb s us I.kIn hl
 rw [List.append_nil] at b
 refine wpAny_call (codeAny_mono (F.run X.A X.stack s H ⟨us,[]⟩ us vs Q (EK σ) hr I.env0 b r h) fun r s' hq=>?_)
 cases r with
 | error e=>exact XX.pass pins σ H s e s' I hq
 | ok fl =>
  cases fl with
  | ret u=>exact I.after hq
  | _=>exact False.elim hq
theorem qag (D:DefOk X.prog X.w X.K X.mg X.base (CX1 X.prog X.w) k x ps sp) (hr:Room k X.A) (XX:XOk X EK) (ha:PA X (e::es) t) (hg:Gl X x:=by rfl) (hdb:(x==("__debug__":Str))=false:=by decide)
  (he:starEach (e::es) X.env=(false,eval e X.env)::starEach es X.env:=by rfl) (hpl:(backTo pos (starEach es X.env)).any (·.1)=false:=by rfl):PE X (.Call (.Name x p) (e::es) [] pos) (qeZ sp EK t):=by
 obtain ⟨f,fd,F,hm,hk,hb⟩:=D.ex
 intro pins s σ H Q I h
 refine wpAny_Call_Name_kw (qaa I hg hm ?_ hdb)
 refine PySem.W.callWith_K (h₀:=X.base) I.ok.mod.kin hk (thn (ha pos pins s σ H _ I h) fun us s1 ⟨vs,H1,I1,r,q⟩=>⟨I1.kIn,?_⟩) he hpl
 exact qd2 F hr hb XX I1 r q
theorem qba {pl:Sem Bool} (D:MethOk X.prog X.w X.K X.mg X.base (CX1 X.prog X.w) k C m ps sp) (hr:Room k X.A) (XX:XOk X EK) (he:PE X o ta) (ha:PA X (e::es) t)
  (hst:starEach (e::es) X.env=(false,eval e X.env)::starEach es X.env:=by rfl) (hpl:(backTo pos (starEach es X.env)).any (·.1)=false:=by rfl)
  (ht:eval (.Call (.Attribute o m apos) (e::es) [] pos) X.env=(do
   let ov ← eval o X.env
   standAt apos.atName
   let (f,first) ← holding [ov] (getMethod ov m pl)
   callWith pos f first (backTo pos (starEach (e::es) X.env)) (backToKw pos (keywordEach [] X.env))):=by rfl) :
  PE X (.Call (.Attribute o m apos) (e::es) [] pos) (qe0 C m sp EK ta t):=by
 obtain ⟨f,fd,F,hm,hb⟩:=D.ex
 intro pins s σ H Q I h
 refine PySem.W.methodCall_KW (pl:=pl) (thn (he pins s σ H _ I h) fun u s1 ⟨x,H1,I1,rx,a,dx,fs,ex,ea,l,q⟩=>?_) ht
 subst ex
 obtain rfl:u=Value.ref a:=rx
 refine qaT I1 ea D.cl hm l ?_
 refine PySem.W.callWith_K (first:=[.ref a]) (h₀:=X.base) I.ok.mod.kin hm.kp (thn (ha pos pins s1 σ H1 _ I1 q) fun us s2 ⟨vs,H2,I2,r,q2⟩=>⟨I2.kIn,?_⟩) hst hpl
 exact qd2 (us:=.ref a::us) (vs:=.ref a::vs) F hr hb XX I2 (.cons rfl r) q2
theorem qbk (D:XMakeOk X.prog X.w X.K X.mg X.base k C x ps sp) (hr:Room (k + 1) X.A) (ha:PA X (e::es) t) (hg:Gl X x:=by rfl) (hdb:(x==("__debug__":Str))=false:=by decide)
  (he:starEach (e::es) X.env=(false,eval e X.env)::starEach es X.env:=by rfl) (hpl:(backTo pos (starEach es X.env)).any (·.1)=false:=by rfl):PE X (.Call (.Name x p) (e::es) [] pos) (qd1 C sp E0 t):=by
 obtain ⟨f,fd,F,M,hb⟩:=D.ex
 exact pe_xmake M F hr hg D.mg_ hb qz ha hdb he hpl
theorem zQ {pl:Sem Bool} (D:MethOk X.prog X.w X.K X.mg X.base CX0 k C m ps sp) (hr:Room k X.A) (he:PE X o ta) (ha:PA X (e::es) t)
  (hst:starEach (e::es) X.env=(false,eval e X.env)::starEach es X.env:=by rfl) (hpl:(backTo pos (starEach es X.env)).any (·.1)=false:=by rfl)
  (ht:eval (.Call (.Attribute o m apos) (e::es) [] pos) X.env=(do
   let ov ← eval o X.env
   standAt apos.atName
   let (f,first) ← holding [ov] (getMethod ov m pl)
   callWith pos f first (backTo pos (starEach (e::es) X.env)) (backToKw pos (keywordEach [] X.env))):=by rfl) :
  PE X (.Call (.Attribute o m apos) (e::es) [] pos) (qdP C m sp [] E0 ta t):=by
 obtain ⟨f,fd,F,hm,hb⟩:=D.ex
 exact pe_meth (pl:=pl) he D.cl hm F hr hb .nil qz ha hst hpl ht
theorem pe_meth0Q {pl:Sem Bool} (D:MethOk X.prog X.w X.K X.mg X.base CX0 k C m ps sp) (hr:Room k X.A) (he:PE X o ta)
  (ht:eval (.Call (.Attribute o m apos) [] [] pos) X.env=(do
   let ov ← eval o X.env
   standAt apos.atName
   let (f,first) ← holding [ov] (getMethod ov m pl)
   callWith pos f first (backTo pos (starEach [] X.env)) (backToKw pos (keywordEach [] X.env))):=by rfl) :
  PE X (.Call (.Attribute o m apos) [] [] pos) (qdP C m sp [] E0 ta qc1):=by
 obtain ⟨f,fd,F,hm,hb⟩:=D.ex
 exact pe_meth0 (pl:=pl) he D.cl hm F hr hb .nil qz ht
end
section
variable {P:Program} {w:World} {K:yg} {mg:Str→Option Value} {base:Heap}
theorem Fun.ok1 {x qual:Str} {st:Stmt} {f:Addr} {fd:FuncData} {N ps:List Str} {k:Nat} {sp:Sp} (F:Fun K x qual st f fd) (S:FnScope N ps (qe st)) (len:∀ vs H Q E,sp vs H Q E→vs.length=ps.length)
  (hbody:∀ (cdv:Value) (A:Around) (outer:List Env) (s:Shared) (H:Hp) (vs:List V) (Q:VK) (E:XK),Room k (A.deeper (envOfC qual (qe st) s.heap.objs.size f cdv))→sp vs H Q E →
   ∃ t,PSs (qdF (CX1 P w) P w K mg base N qual (qe st) f cdv A outer s H E) (qj st) t∧t { nx:=fun _ H'=>Q .non H',rt:=Q } (start N vs) H):FnOk P w K mg base (CX1 P w) (k + 1) f fd ps sp:=by
 obtain ⟨oc,od,kV,doc,pm,an,cdv,ct,osl,rfl,lk,hcd⟩:=F.ex
 exact qfQ lk hcd S len fun A outer s H vs Q E hr hsp=>hbody cdv A outer s H vs Q E hr hsp
end
abbrev Cx.tried (X:Cx) (pn:List (Addr×Obj)) (E:Value→Shared→Prop):Cx:={ X with pn:=pn,xe:=E }
abbrev Cx.hand (X:Cx) (a:Addr):Cx:={ X with A:=X.A.mark (some (.ref a)),calm:=false,xe:=fun _ _=>False }
section
variable {X:Cx} {pins pins':List (Addr×Obj)} {σ:St} {H:Hp} {s:Shared} {E:Value→Shared→Prop} {a:Addr}
theorem Inv.tried (I:Inv X pins σ H s) (E:Value→Shared→Prop):Inv (X.tried (X.pn++pins) E) [] σ H s:=
 ⟨⟨I.ok.mod,I.ok.kind,I.ok.glob,I.ok.blt,I.ok.above,I.ok.inj,I.ok.has,I.ok.cab,I.ok.hd,I.ok.frames,I.ok.stk,I.ok.exf,I.ok.bs,I.ok.bsz,I.ok.noex,I.ok.exfs,I.ok.funs,I.ok.frf⟩,I.os,I.bare,I.base,I.loc,I.cell,I.free,I.freeC,
  fun p hp=>I.pin p (by have hp:p∈(X.pn++pins)++[]:=hp;rw [List.append_nil] at hp;exact hp),I.hok,I.len⟩
theorem Inv.untried (I:Inv (X.tried (X.pn++pins) E) pins' σ H s):Inv X pins σ H s:=
 ⟨⟨I.ok.mod,I.ok.kind,I.ok.glob,I.ok.blt,I.ok.above,I.ok.inj,I.ok.has,I.ok.cab,I.ok.hd,I.ok.frames,I.ok.stk,I.ok.exf,I.ok.bs,I.ok.bsz,I.ok.noex,I.ok.exfs,I.ok.funs,I.ok.frf⟩,I.os,I.bare,I.base,I.loc,I.cell,I.free,I.freeC,
  fun p hp=>I.pin p (List.mem_append_left _ hp),I.hok,I.len⟩
theorem Inv.hand (I:Inv X pins σ H s) (a:Addr):Inv (X.hand a) pins σ H s:=
 ⟨⟨I.ok.mod,I.ok.kind,I.ok.glob,I.ok.blt,I.ok.above,I.ok.inj,I.ok.has,I.ok.cab,(fun h=>nomatch h),I.ok.frames,I.ok.stk,I.ok.exf,I.ok.bs,I.ok.bsz,I.ok.noex,I.ok.exfs,I.ok.funs,I.ok.frf⟩,I.os,I.bare,I.base,I.loc,I.cell,I.free,I.freeC,I.pin,I.hok,I.len⟩
theorem Inv.unhand (hc:X.calm=true→X.A.handled=none) (I:Inv (X.hand a) pins σ H s):Inv X pins σ H s:=
 ⟨⟨I.ok.mod,I.ok.kind,I.ok.glob,I.ok.blt,I.ok.above,I.ok.inj,I.ok.has,I.ok.cab,hc,I.ok.frames,I.ok.stk,I.ok.exf,I.ok.bs,I.ok.bsz,I.ok.noex,I.ok.exfs,I.ok.funs,I.ok.frf⟩,I.os,I.bare,I.base,I.loc,I.cell,I.free,I.freeC,I.pin,I.hok,I.len⟩
structure Loose (X:Cx) (pins:List (Addr×Obj)) (H:Hp) (T:Addr):Prop where
 hn:H T=none
 lo:X.s₀.heap.objs.size≤T
 nl:T≠X.env.locals
 nf:T∉X.fs
 nc:∀ x c,X.env.cells.lookup x=some c→c≠T
 np:∀ p∈X.pn++pins,p.1≠T
theorem Inv.loose (I:Inv X pins σ H s) {T:Addr} (hT:s.heap.objs.size≤T) {H':Hp} (hn:H' T=none):Loose X pins H' T where
 hn:=hn
 lo:=yi I.sz hT
 nl:=Nat.ne_of_gt (yj I.lt hT)
 nf:=I.nofs hT
 nc:=fun x c e=>by
  obtain ⟨v,o,ho,_⟩:=I.cell x c e
  exact Nat.ne_of_lt (yj (Heap.lt_size ho) hT)
 np:=fun p hp=>Nat.ne_of_lt (yj (Heap.lt_size (I.pin p hp).1) hT)
theorem Inv.noted {C T:Addr} {dx:Option Addr} {fl:Value} {zs:List Addr} {h':Heap} (I:Inv X pins σ H s) (ha:H a=some (XO a C dx)) (k:Keep (frs X.stack) zs s.heap h') (hz:∀ b∈zs,b=a∨Loose X pins H b) (t:Trc h' a (.ref C) dx T fl) :
  Inv X pins σ H { s with heap:=h' }:=by
 have hh:=qbQ I ha k (fun b hb=>(hz b hb).imp (fun e=>e) fun l=>l.hn) t
 have nz:∀ b,H b=none→b∉zs.filter (fun b=>decide (b≠a))→b∉zs:=fun b n z y=>z (yp.mpr ⟨y,decide_eq_true fun e=>by rw [e,ha] at n;cases n⟩)
 refine I.call (g':=s.gens) (t':=s.toks) (d':=s.drawn) (ch:=zs.filter fun b=>decide (b≠a)) ⟨fun b o e n hb hx=>k.keep b o e (nz b n hx) hb,fun b o e n hb hx=>k.slot b o e (nz b n hx) hb,fun _ _ _ n _=>n,fun b o e hx=>?_,fun _ _ e=>e,fun _ _ _ e=>e,
  fun b ps e=>⟨#[],by rw [e];simp⟩⟩ hh I.bare fun b hb=>?_
 ·by_cases hba:b=a
  ·subst hba
   obtain ⟨vs,q,_⟩:=t.ex
   exact ⟨_,q⟩
  ·have z:b∉zs:=fun y=>hx (yp.mpr ⟨y,decide_eq_true hba⟩)
   by_cases hs:b∈frs X.stack
   ·obtain ⟨sl,q⟩:=k.slot b o e z hs
    exact ⟨_,q⟩
   ·exact ⟨o,k.keep b o e z hs⟩
 ·obtain ⟨y,q⟩:=yp.mp hb
  rcases hz b y with e | l
  ·exact absurd e (yk q)
  ·exact ⟨.inr l.lo,l.nl,l.nc,l.np⟩
theorem unbind_ok {M:Model} {A:Around} {i:Nat} {x:Str} {v:V} {Q:Unit→Shared→Prop} (I:Inv X pins σ H s) (hN:X.N.Nodup) (hi:X.N[i]?=some x) (hx:X.env.scope.names.lookup x=some .local) (hv:σ[i]?=some (some v))
  (h:∀ s',Inv X pins (σ.set i none) H s'→Q () s'):wpAny M A (unbindName X.env x) Q E s:=by
 obtain ⟨m,hn,hl⟩:=id I.loc
 obtain ⟨u,ru,lk⟩:=hl i x v hi hv (.inl hx)
 have hm:m x=some u:=by
  rcases lk with ⟨_,e⟩ | ⟨k,_⟩
  ·exact e
  ·have k':X.env.scope.names.lookup x=some .cell∨X.env.scope.names.lookup x=some .free:=k
   rw [hx] at k'
   rcases k' with z | z<;>cases z
 have hcls:(X.env.scope.kind==.class||(X.env.scope.kind==.module&&X.env.locals != X.env.globals))=false:=by rw [I.ok.kind];rfl
 refine wpAny_unbindName_local hx hn hm hcls fun h' u' hn' hs=>?_
 have lowL:∀ b o,X.s₀.heap.get? b=some o→b≠X.env.locals:=fun b o e=>Nat.ne_of_lt (yj (Heap.lt_size e) I.ok.above)
 refine h _ ⟨I.ok,I.os,I.bare,⟨fun b o e n hb hx=>?_,fun b o e n hb hx=>?_,I.base.free,fun b o e hx=>?_,I.base.tups,I.base.frzs,I.base.tbls⟩,⟨_,hn',fun j y v' e1 e2 e3=>?_⟩,fun y c e=>?_,I.free,I.freeC,fun p hp=>?_,fun b ob e=>?_,by simpa using I.len⟩
 ·exact (hs.2 b (lowL b o e)).trans (I.base.keep b o e n hb hx)
 ·obtain ⟨sl,e1⟩:=I.base.slot b o e n hb hx
  exact ⟨sl,(hs.2 b (lowL b o e)).trans e1⟩
 ·obtain ⟨o',e1⟩:=I.base.there b o e hx
  exact ⟨o',(hs.2 b (lowL b o e)).trans e1⟩
 ·by_cases hj:j=i
  ·subst hj
   have hlt:j < σ.length:=by rw [I.len];exact (yc.mp hi).1
   rw [List.getElem?_set_self hlt] at e2
   cases e2
  ·rw [List.getElem?_set_ne (Ne.symm hj)] at e2
   obtain ⟨w',r',q⟩:=hl j y v' e1 e2 e3
   refine ⟨w',r',?_⟩
   rcases q with ⟨k,e⟩ | ⟨k,c,e,z⟩
   ·have ny:y≠x:=fun e=>hj (zJ hN e1 (e ▸ hi))
    exact .inl ⟨k,by simp [ny,e]⟩
   ·exact .inr ⟨k,c,e,z.sameBut hs (I.cne y c e)⟩
 ·obtain ⟨w',z⟩:=I.cell y c e
  exact ⟨w',z.sameBut hs (I.cne y c e)⟩
 ·obtain ⟨e,n,ne,nf,d⟩:=I.pin p hp
  exact ⟨(hs.2 p.1 ne).trans e,n,ne,nf,d⟩
 ·refine (I.hok b ob e).stay (fun c w' hc q=>(hs.2 c ?_).trans q) (fun _ q=>q) fun _ _ q=>q
  rintro rfl
  rcases hc with rfl | hc
  ·rw [I.free] at e;cases e
  ·rw [I.free] at hc;cases hc
end
structure Held (X:Cx) (pins:List (Addr×Obj)) (H:Hp) (h:Heap) (a C:Addr) (dx:Option Addr):Prop where
 at_:H a=some (XO a C dx)
 tr:∃ T,Trc h a (.ref C) dx T .none∧Loose X pins H T
def PH (X:Cx) (a C:Addr) (dx:Option Addr) (hs:List ExceptHandler) (th:TS):Prop:=
 ∀ (pins:List (Addr×Obj)) (s:Shared) (σ:St) (H:Hp) (D:Ends),Inv X pins σ H s→Held X pins H s.heap a C dx→th D σ H→wpAny (model X.prog X.w) X.A (handleBy (.ref a) X.env hs) (SP X pins D) X.xe s
def thNil:TS:=fun _ _ _=>False
def thAs (K:yg) (a C D:Addr) (i:Nat) (tb rest:TS):TS:=fun Z σ H=>∃ b,PySem.W.mroIn K C (.ref D)=some b∧XAt K D∧XAt K C ∧
 if b=true then tb { nx:=fun σ' H'=>Z.nx (σ'.set i none) H',rt:=Z.rt,bk:=fun σ' H'=>Z.bk (σ'.set i none) H',ct:=fun σ' H'=>Z.ct (σ'.set i none) H' } (σ.set i (some (.ref a))) H else rest Z σ H
theorem xmatch {M:Model} {A:Around} {E:Value→Shared→Prop} {s:Shared} {K:yg} {a C D:Addr} {o:Obj} {b:Bool} {Q:Bool→Shared→Prop} (X:K.In s.heap) (ho:s.heap.get? a=some o) (hc:o.cls=.ref C) (d:XAt K D) (hb:PySem.W.mroIn K C (.ref D)=some b) (q:Q b s) :
  wpAny M A (excMatches (.ref a) (.ref D)) Q E s:=by
 obtain ⟨nm,qn,N,bs,bm,hdct,sn,sub,ab,col,dd,k0,k1,k2,k3,k5,hD,hm⟩:=qc9 X d.xc
 have hcB:(Value.ref D::bm).contains (.type "BaseException")=true:=by rw [List.contains_cons,qaJ hm (by simp),Bool.or_true]
 have f:=tc_notTuple
 have L:=PySem.W.looks_mroIn (M:=M) X hb
 obtain ⟨hp,g,dr,tk,os⟩:=s
 unfold excMatches
 repeat (first | with_reducible refine wpAny_loadPart_at hD ?_ | (with_reducible refine wpAny_loadPart_at ho ?_;rw [hc]) | (with_reducible refine wpAny_isSubtype_exc hD ?_;rw [hcB]) | with_reducible refine L.at ?_ | wp_step)
 cases b<;>(wp_walk;exact q)
section
variable {X:Cx} {a C D:Addr} {dx:Option Addr} {c n:Str} {cp pos:Pos} {b0:Stmt} {body:List Stmt} {rest:List ExceptHandler} {tb tr:TS} {i:Nat} {K:yg}
theorem ph_nil:PH X a C dx [] thNil:=fun _ _ _ _ _ _ _ h=>h.elim
theorem suite_as {prog:Program} {w:World} {A:Around} {R:Result→Shared→Prop} {s:Shared} {env:Env} {e:Value}
  (h:wpAny (model prog w) A (setFlight e none) (fun _ s1=>wpAny (model prog w) A (bindName env n e) (fun _ s2=>wpAny (model prog w) A (execs (b0::body) env) (fun f s3=>R (.ok f) s3) (fun _ _=>False) s2) (fun _ _=>False) s1) (fun _ _=>False) s) :
  codeAny (model prog w) A (.handlers e [.ExceptHandler none (some n) (b0::body) pos] env) R s:=by
 refine codeAny_of_tree ?_
 show wpAny _ A (do return Fin.done (← (handleWith e env [.ExceptHandler none (some n) (b0::body) pos]).onRaise (fun x=>do noteFrame x env;theTreesLotGoes x))) _ _ s
 refine wpAny_bind (wpAny_noted ?_)
 unfold handleWith
 refine wpAny_bind (wpAny_standAt (wpAny_bind (wpAny_mono h (fun _ s1 h1=>wpAny_bind (wpAny_mono h1 (fun _ s2 h2=>wpAny_bind (wpAny_attempt (wpAny_mono h2 (fun f s3 h3=>wpAny_pure (wpAny_pure h3)) fun _ _ z=>z.elim))) fun _ _ z=>z.elim)) fun _ _ z=>z.elim)))
theorem ph_as (hK:X.K=K) (hN:X.N.Nodup) (hi:X.N[i]?=some n) (hx:X.env.scope.names.lookup n=some .local) (hg:Gl X c) (hm:X.mg c=some (.ref D)) (hb:PSs (X.hand a) (b0::body) tb) (hr:PH X a C dx rest tr)
  (hdb:(c==("__debug__":Str))=false:=by decide):PH X a C dx (.ExceptHandler (some (.Name c cp)) (some n) (b0::body) pos::rest) (thAs K a C D i tb tr):=by
 subst hK
 intro pins s σ H Z I hl h
 obtain ⟨b,hb1,xd,xc,q⟩:=h
 obtain ⟨vs,he⟩:=(show IsX H a C dx from .inr hl.at_).get I.hok
 refine wpAny_handleBy_cons (codeAny_handlers_test ?_) (by intro q;cases q)
 have Ih:=I.hand a
 refine qaa (X:=X.hand a) Ih hg hm (xmatch I.kIn he rfl xd hb1 ?_) hdb
 cases b with
 | false=>exact hr pins s σ H Z I hl q
 | true =>
  obtain ⟨T,t,lo⟩:=hl.tr
  refine suite_as (qbP t fun h1 t1 k1 sz1=>?_)
  have kk:Keep (frs X.stack) [T] s.heap h1:=⟨fun b o e z _=>k1 b o (by simpa using z) e,fun b o e z _=>⟨o.slots,k1 b o (by simpa using z) e⟩⟩
  have I1:=I.noted hl.at_ kk (fun b hb=>.inr (by rw [List.mem_singleton.mp hb];exact lo)) t1
  have I2:=I1.hand a
  refine wpAny_bindName (qa8 (X:=X.hand a) I2 hN hi (.inl hx) (v:=.ref a) rfl (fun s2 I3=>?_) (.inr hx))
  have q':tb { nx:=fun σ' H'=>Z.nx (σ'.set i none) H',rt:=Z.rt,bk:=fun σ' H'=>Z.bk (σ'.set i none) H',ct:=fun σ' H'=>Z.ct (σ'.set i none) H' } (σ.set i (some (.ref a))) H:=q
  refine thn (hb pins s2 _ H _ I3 q') fun f s3 hf=>?_
  have fin:∀ {σ':St} {H':Hp} {Q:Unit→Shared→Prop},Inv (X.hand a) pins σ' H' s3→(∀ s4,Inv X pins (σ'.set i none) H' s4→Q () s4)→wpAny (model X.prog X.w) X.A (do bindName X.env n .none;unbindBehindTheSuite X.env n pos) Q X.xe s3:=fun {σ' H' Q} J k=>by
   have J':=Inv.unhand I.ok.hd J
   have hlt:i < σ'.length:=by rw [J'.len];exact (yc.mp hi).1
   refine wpAny_bind (wpAny_bindName (qa8 J' hN hi (.inl hx) (v:=.non) rfl (fun s4 J4=>?_) (.inr hx)))
   refine wpAny_onRaise (unbind_ok J4 hN hi hx (v:=.non) (by rw [List.getElem?_set_self hlt]) fun s5 J5=>k s5 ?_)
   rw [List.set_set] at J5
   exact J5
  cases f with
  | next=>obtain ⟨σ',H',J,z⟩:=hf;exact fin J fun s4 J4=>⟨_,H',J4,z⟩
  | brk=>obtain ⟨σ',H',J,z⟩:=hf;exact fin J fun s4 J4=>⟨_,H',J4,z⟩
  | cont=>obtain ⟨σ',H',J,z⟩:=hf;exact fin J fun s4 J4=>⟨_,H',J4,z⟩
  | ret u=>obtain ⟨v,σ',H',J,r,z⟩:=hf;exact fin J fun s4 J4=>⟨v,_,H',J4,r,z⟩
end
def tTry (X:Cx) (body:List Stmt) (hs:List ExceptHandler) (te:TS):TS:=fun D σ H=>∃ (EK:St→XK) (tb:TS),(∀ pn xe,XOk (X.tried pn xe) EK→PSs (X.tried pn xe) body tb) ∧
 tb { nx:=te D,rt:=D.rt,bk:=D.bk,ct:=D.ct } σ H∧∀ (a C:Addr) (dx:Option Addr) (σ':St) (H':Hp),EK σ' (.ref C) dx H'→H' a=some (XO a C dx)→∃ th,PH X a C dx hs th∧th D σ' H'
section
variable {X:Cx} {body orelse:List Stmt} {h0:ExceptHandler} {hs:List ExceptHandler} {pos:Pos} {te:TS}
theorem ps_try (hc:X.calm=true) (hst:X.stack=X.env::X.outer) (hfr:X.env.frame=some X.env.locals) (ho:PSs X orelse te):PS X (.Try body (h0::hs) orelse [] pos) (tTry X body (h0::hs) te):=by
 intro pins s σ H D I h
 obtain ⟨EK,tb,hb,q,hh⟩:=h
 have hfs:X.A.frames=some (X.env::X.outer):=by rw [← hst];exact I.ok.frames
 let xe':Value→Shared→Prop:=fun e s1=>∃ (a C:Addr) (dx:Option Addr) (σ':St) (H':Hp),e=.ref a∧Inv X pins σ' H' s1∧H' a=some (XO a C dx)∧EK σ' (.ref C) dx H' ∧
  ((∃ T,Trc s1.heap a (.ref C) dx T .none∧Loose X pins H' T)∨∃ a0,s1.heap.get? a=some ⟨.ref C,dx,.fields (xfs a0),#[]⟩)
 have XX:XOk (X.tried (X.pn++pins) xe') EK:=by
  refine ⟨fun pins' σ' H1 s1 e s2 J hx=>?_,fun pins' σ' H1 s1 a C dx J e z=>?_,hc⟩
  ·obtain ⟨a,C,dx,T,H',rfl,hos,hbr,un,hok,ha,t,hT,hTn,z⟩:=hx
   have J1:=J.call' (s':=s2) (H':=H') (ch:=[]) hos un hok hbr (fun b z=>absurd z (by simp))
   have J0:=Inv.untried J
   exact ⟨a,C,dx,σ',H',rfl,Inv.untried J1,ha,z,.inl ⟨T,t,J0.loose hT hTn⟩⟩
  ·have J0:=Inv.untried J
   obtain ⟨⟨a0,hx⟩,_⟩:=(show ObjOk _ _ H1 s1.heap a (XN a C dx) from J0.hok a _ e)
   have J1:Inv X pins σ' (upd H1 a (XO a C dx)) s1:=J0.write (x:=a) (e:=a) (o:=XO a C dx) (h':=s1.heap) (t':=s1.toks) (by rw [e];exact True.intro) (.inl rfl) (fun _ _ _ q=>q) ⟨_,hx⟩ (XO.ok hx)
   exact ⟨a,C,dx,σ',_,rfl,J1,qc,z,.inr ⟨a0,hx⟩⟩
 have B:=hb (X.pn++pins) xe' XX [] s σ H _ (I.tried xe') q
 refine wpAny_Try_except (wpAny_mono B (fun f s1 hf=>?_) fun e s1 he=>?_)
 ·cases f with
  | next=>obtain ⟨σ',H',J,z⟩:=hf;exact ho pins s1 σ' H' D (Inv.untried J) z
  | brk=>obtain ⟨σ',H',J,z⟩:=hf;exact ⟨σ',H',Inv.untried J,z⟩
  | cont=>obtain ⟨σ',H',J,z⟩:=hf;exact ⟨σ',H',Inv.untried J,z⟩
  | ret u=>obtain ⟨v,σ',H',J,r,z⟩:=hf;exact ⟨v,σ',H',Inv.untried J,r,z⟩
 ·obtain ⟨a,C,dx,σ',H',rfl,J,ha,z,tt⟩:=he
  obtain ⟨th,hp,hq⟩:=hh a C dx σ' H' z ha
  have stk:s1.heap.FunFrames X.base (X.env::X.outer):=by rw [← hst];exact J.stack
  have go:∀ (h':Heap) (T':Addr) (zs:List Addr),s1.heap.objs.size≤T'→Trc h' a (.ref C) dx T' (rawInt X.env.locals)→Keep (frs (X.env::X.outer)) zs s1.heap h'→(∀ b∈zs,b=a∨Loose X pins H' b) →
    wpAny (model X.prog X.w) X.A (setFlight (.ref a) none) (fun _ s3=>wpAny (model X.prog X.w) X.A (handleBy (.ref a) X.env (h0::hs)) (SP X pins D) X.xe s3) X.xe { s1 with heap:=h' }:=fun h' T' zs hs' t' k hz=>by
   have lo:=J.loose hs' (J.hok.fresh hs')
   have J1:=J.noted ha (by rw [hst];exact k) hz t'
   refine qbP (s:={ s1 with heap:=h' }) t' fun h2 t2 k2 sz2=>?_
   have kk:Keep (frs X.stack) [T'] h' h2:=⟨fun b o e z _=>k2 b o (by simpa using z) e,fun b o e z _=>⟨o.slots,k2 b o (by simpa using z) e⟩⟩
   have J2:=J1.noted ha kk (fun b hb=>.inr (by rw [List.mem_singleton.mp hb];exact lo)) t2
   exact hp pins _ σ' H' D J2 ⟨ha,T',t2,lo⟩ hq
  rcases tt with ⟨T,t,lo⟩ | ⟨a0,hx⟩
  ·refine qdc (base:=X.base) hfs stk hfr t fun h' T' hs' t' k=>go h' T' _ hs' t' k fun b hb=>?_
   simp only [List.mem_cons,List.not_mem_nil,or_false] at hb
   rcases hb with rfl | rfl
   ·exact .inl rfl
   ·exact .inr lo
  ·refine qcl (base:=X.base) hfs stk hfr hx rfl rfl fun h' T' hs' t' k=>go h' T' _ hs' t' k fun b hb=>?_
   exact .inl (List.mem_singleton.mp hb)
end
def TyX (K:yg) (H:Hp) (x:V) (t:Value):Prop:=TyOf K H x t∨∃ a C dx,x=.ref a∧t=.ref C∧IsX H a C dx∧XAt K C∧∀ d,dx=some d→∃ fs,H d=some (.xd fs)
theorem TyX.kit {X:Cx} {pins:List (Addr×Obj)} {σ:St} {H:Hp} {s:Shared} {x:V} {u t:Value} (I:Inv X pins σ H s) (rx:RelV x u) (ty:TyX X.K H x t):∃ P:Heap→Prop,PySem.W.KitX X.K u t P∧P s.heap∧u≠.builtin "__main__.__loader__#opaque":=by
 rcases ty with ty | ⟨a,C,dx,rfl,rfl,hx,c,hd⟩
 ·exact ty.kit I rx
 ·cases rx
  obtain ⟨vs,he⟩:=hx.get I.hok
  cases dx with
  | none=>exact ⟨_,qda (od:=none) c,⟨he,rfl,rfl,True.intro⟩,fun z=>nomatch z⟩
  | some d =>
   obtain ⟨fs,hf⟩:=hd d rfl
   obtain ⟨od,mA,h1,_⟩:=qeU I hf
   exact ⟨_,qda (od:=some od) c,⟨he,rfl,rfl,h1⟩,fun z=>nomatch z⟩
def qf2 (K:yg):List V→Hp→VK→Prop:=fun xs H Q=>∃ x y t c b,xs=[x,y]∧TyX K H x t∧qcj y=some c∧PySem.W.kitOne K t c=some b∧Q (.bl b) H
def qe1 (K:yg):List V→Hp→VK→Prop:=fun xs H Q=>∃ x p ys t cs b,xs=[x,.ref p]∧TyX K H x t∧H p=some (.tup ys)∧ys.map qcj=cs.map some∧PySem.W.kitAny K t cs=some b∧Q (.bl b) H
section
variable {X:Cx} {K:yg}
theorem qax (hK:X.K=K):zY X (.builtin "isinstance") (qf2 K):=by
 subst hK
 intro pins s σ H xs us Q I r h
 obtain ⟨x,y,t,c,b,rfl,ty,hy,hb,q⟩:=h
 obtain ⟨u,v,rfl,ru,rv⟩:=qew r
 have e:=qbD hy rv
 subst e
 obtain ⟨P,Z,p,ne⟩:=ty.kit I ru
 exact PySem.W.kia_one Z I.kIn p hb ne fun tk=>⟨.bl b,H,I.tok tk,rfl,q⟩
theorem qd3 (hK:X.K=K):zY X (.builtin "isinstance") (qe1 K):=by
 subst hK
 intro pins s σ H xs us Q I r h
 obtain ⟨x,p,ys,t,cs,b,rfl,ty,hp,hy,hb,q⟩:=h
 obtain ⟨u,v,rfl,ru,rv⟩:=qew r
 cases rv
 obtain ⟨P,Z,pz,ne⟩:=ty.kit I ru
 obtain ⟨_,its,rv,o,ho,hc,n,hd⟩:=(show ObjOk X.prog X.w H s.heap p (.tup ys) from I.hok p _ hp)
 have e:=qbj hy rv
 subst e
 obtain ⟨c,dd,dt,sl⟩:=o
 have hc':c=.type "tuple":=hc
 have hd':dt=.seq its.toArray n:=hd
 subst hc' hd'
 exact PySem.W.kia_tup Z I.kIn pz ho hb ne fun tk=>⟨.bl b,H,I.tok tk,rfl,q⟩
end
mutual
inductive EqD (K:yg) (H:Hp):Nat→V→V→Bool→Prop
 | flat {n:Nat} {x y:V} (fx:zZ x=true) (fy:zZ y=true):EqD K H n x y (eqV x y)
 | self {n:Nat} {a:Addr}:EqD K H n (.ref a) (.ref a) true
 | deep {n:Nat} {a b:Addr} {k:Bool} (h:EqT K H n a b k) (ne:a≠b):EqD K H n (.ref a) (.ref b) k
inductive EqT (K:yg) (H:Hp):Nat→Addr→Addr→Bool→Prop
 | lst {n:Nat} {a b:Addr} {xs ys:List V} {e:Nat→Bool} (ha:SqL K H a xs) (hb:SqL K H b ys) (hl:xs.length=ys.length) (he:∀ j x y,xs[j]?=some x→ys[j]?=some y→EqD K H n x y (e j)):EqT K H (n + 1) a b ((List.range xs.length).all e)
 | lstL {n:Nat} {a b:Addr} {xs ys:List V} (ha:SqL K H a xs) (hb:SqL K H b ys) (hl:xs.length≠ys.length):EqT K H (n + 1) a b false
 | tup {n:Nat} {a b:Addr} {xs ys:List V} {e:Nat→Bool} (ha:SqT K H a xs) (hb:SqT K H b ys) (he:∀ j x y,xs[j]?=some x→ys[j]?=some y→EqD K H n x y (e j)):EqT K H (n + 1) a b ((List.range (min xs.length ys.length)).all e&&xs.length==ys.length)
 | lt {n:Nat} {a b:Addr} {xs ys:List V} (ha:SqL K H a xs) (hb:SqT K H b ys):EqT K H (n + 1) a b false
 | tl {n:Nat} {a b:Addr} {xs ys:List V} (ha:SqT K H a xs) (hb:SqL K H b ys):EqT K H (n + 1) a b false
end
theorem jx:∀ {xs:List V} {us:List Value} {j:Nat} {u:Value},Vals xs us→us[j]?=some u→∃ x,xs[j]?=some x∧RelV x u
 | _,_,_,_,.nil,e=>by simp at e
 | _,_,0,_,.cons r _,e=>by simp at e;subst e;exact ⟨_,rfl,r⟩
 | _,_,j + 1,u,.cons _ t,e=>by
  obtain ⟨x,h1,h2⟩:=jx (j:=j) (u:=u) t (by simpa using e)
  exact ⟨x,by simpa using h1,h2⟩
section
variable {X:Cx} {pins:List (Addr×Obj)} {σ:St} {H:Hp} {s:Shared}
theorem qcM (I:Inv X pins σ H s):∀ n,(∀ (A:Around) (x y:V) (k:Bool) (u v:Value),EqD X.K H n x y k→RelV x u→RelV y v→A.units + n < cLine→SeqAt.EqAt A s u v k)∧(∀ (A:Around) (a b:Addr) (k:Bool),EqT X.K H n a b k→A.units + n < cLine→SeqAt.RcAt A s (.ref a) (.ref b) k):=by
 intro n
 induction n with
 | zero =>
  have t0:∀ (A:Around) (a b:Addr) (k:Bool),EqT X.K H 0 a b k→A.units + 0 < cLine→SeqAt.RcAt A s (.ref a) (.ref b) k:=fun A a b k h=>by cases h
  refine ⟨fun A x y k u v h rx ry hu=>?_,t0⟩
  cases h with
  | flat fx fy=>exact qdT rx ry fx fy
  | self=>cases rx;cases ry;exact SeqAt.EqAt.same _
  | deep h ne=>cases h
 | succ n ih =>
  have t1:∀ (A:Around) (a b:Addr) (k:Bool),EqT X.K H (n + 1) a b k→A.units + (n + 1) < cLine→SeqAt.RcAt A s (.ref a) (.ref b) k:=fun A a b k h hu=>by
   have hu0:A.units < cLine:=by omega
   have hu1:A.in1.units + n < cLine:=by show A.units + 1 + n < cLine;omega
   cases h with
   | @lst _ _ _ xs ys e ha hb hl he =>
    obtain ⟨its,r,pl,hz⟩:=I.list ha
    obtain ⟨its2,r2,pl2,hz2⟩:=I.list hb
    have e1:xs.length=its.toArray.size:=by rw [List.size_toArray];exact r.length
    have e2:ys.length=its2.toArray.size:=by rw [List.size_toArray];exact r2.length
    rw [e1]
    refine SeqAt.RcAt.lists pl.isList pl2.isList (by rw [← e1,← e2,hl]) hu0 fun j h1 h2=>?_
    have g1:its[j]?=some its.toArray[j]:=by simp
    have g2:its2[j]?=some its2.toArray[j]:=by simp
    obtain ⟨x,hx,rx⟩:=jx r g1
    obtain ⟨y,hy,ry⟩:=jx r2 g2
    exact ih.1 A.in1 x y (e j) _ _ (he j x y hx hy) rx ry hu1
   | @lstL _ _ _ xs ys ha hb hl =>
    obtain ⟨its,r,pl,hz⟩:=I.list ha
    obtain ⟨its2,r2,pl2,hz2⟩:=I.list hb
    refine SeqAt.RcAt.lists_lengths pl.isList pl2.isList ?_ hu0
    rw [List.size_toArray,List.size_toArray,← r.length,← r2.length]
    simp [hl]
   | @tup _ _ _ xs ys e ha hb he =>
    obtain ⟨its,r,pl,hz⟩:=I.tuple ha
    obtain ⟨its2,r2,pl2,hz2⟩:=I.tuple hb
    have e1:xs.length=its.toArray.size:=by rw [List.size_toArray];exact r.length
    have e2:ys.length=its2.toArray.size:=by rw [List.size_toArray];exact r2.length
    rw [e1,e2]
    refine SeqAt.RcAt.tuples pl pl2 hu0 fun j h1 h2=>?_
    have g1:its[j]?=some its.toArray[j]:=by simp
    have g2:its2[j]?=some its2.toArray[j]:=by simp
    obtain ⟨x,hx,rx⟩:=jx r g1
    obtain ⟨y,hy,ry⟩:=jx r2 g2
    exact ih.1 A.in1 x y (e j) _ _ (he j x y hx hy) rx ry hu1
   | lt ha hb =>
    obtain ⟨its,r,pl,hz⟩:=I.list ha
    obtain ⟨its2,r2,pl2,hz2⟩:=I.tuple hb
    exact SeqAt.RcAt.list_tuple pl.isList pl2 hu0
   | tl ha hb =>
    obtain ⟨its,r,pl,hz⟩:=I.tuple ha
    obtain ⟨its2,r2,pl2,hz2⟩:=I.list hb
    exact SeqAt.RcAt.tuple_list pl pl2.isList hu0
  refine ⟨fun A x y k u v h rx ry hu=>?_,t1⟩
  cases h with
  | flat fx fy=>exact qdT rx ry fx fy
  | self=>cases rx;cases ry;exact SeqAt.EqAt.same _
  | deep h ne=>cases rx;cases ry;exact SeqAt.EqAt.of_refs ne (t1 A _ _ k h hu)
theorem ne_refs (I:Inv X pins σ H s) {n:Nat} {A:Around} {a b:Addr} {k:Bool} (h:EqT X.K H n a b k) (hu:A.units + n < cLine):SeqAt.RcNeAt A s (.ref a) (.ref b) (!k):=by
 cases n with
 | zero=>cases h
 | succ n =>
  have ih:=qcM I n
  have hu0:A.units < cLine:=by omega
  have hu1:A.in1.units + n < cLine:=by show A.units + 1 + n < cLine;omega
  cases h with
  | @lst _ _ _ xs ys e ha hb hl he =>
   obtain ⟨its,r,pl,hz⟩:=I.list ha
   obtain ⟨its2,r2,pl2,hz2⟩:=I.list hb
   have e1:xs.length=its.toArray.size:=by rw [List.size_toArray];exact r.length
   have e2:ys.length=its2.toArray.size:=by rw [List.size_toArray];exact r2.length
   rw [e1]
   refine SeqAt.RcNeAt.lists pl.isList pl2.isList (by rw [← e1,← e2,hl]) hu0 fun j h1 h2=>?_
   obtain ⟨x,hx,rx⟩:=jx r (show its[j]?=some its.toArray[j] by simp)
   obtain ⟨y,hy,ry⟩:=jx r2 (show its2[j]?=some its2.toArray[j] by simp)
   exact ih.1 A.in1 x y (e j) _ _ (he j x y hx hy) rx ry hu1
  | @lstL _ _ _ xs ys ha hb hl =>
   obtain ⟨its,r,pl,hz⟩:=I.list ha
   obtain ⟨its2,r2,pl2,hz2⟩:=I.list hb
   refine SeqAt.RcNeAt.lists_lengths pl.isList pl2.isList ?_ hu0
   rw [List.size_toArray,List.size_toArray,← r.length,← r2.length]
   simp [hl]
  | @tup _ _ _ xs ys e ha hb he =>
   obtain ⟨its,r,pl,hz⟩:=I.tuple ha
   obtain ⟨its2,r2,pl2,hz2⟩:=I.tuple hb
   have e1:xs.length=its.toArray.size:=by rw [List.size_toArray];exact r.length
   have e2:ys.length=its2.toArray.size:=by rw [List.size_toArray];exact r2.length
   rw [e1,e2]
   refine SeqAt.RcNeAt.tuples pl pl2 hu0 fun j h1 h2=>?_
   obtain ⟨x,hx,rx⟩:=jx r (show its[j]?=some its.toArray[j] by simp)
   obtain ⟨y,hy,ry⟩:=jx r2 (show its2[j]?=some its2.toArray[j] by simp)
   exact ih.1 A.in1 x y (e j) _ _ (he j x y hx hy) rx ry hu1
  | lt ha hb =>
   obtain ⟨its,r,pl,hz⟩:=I.list ha
   obtain ⟨its2,r2,pl2,hz2⟩:=I.tuple hb
   exact SeqAt.RcNeAt.list_tuple pl.isList pl2 hu0
  | tl ha hb =>
   obtain ⟨its,r,pl,hz⟩:=I.tuple ha
   obtain ⟨its2,r2,pl2,hz2⟩:=I.list hb
   exact SeqAt.RcNeAt.tuple_list pl pl2.isList hu0
theorem qe2 {A:Around} {x y:V} {u v:Value} (rx:RelV x u) (ry:RelV y v) (fx:zZ x=true) (fy:zZ y=true):SeqAt.RcAt A s u v (eqV x y)∧SeqAt.RcNeAt A s u v (!eqV x y):=by
 cases x with
 | non =>
  cases rx
  cases y with
  | non=>cases ry;exact ⟨SeqAt.RcAt.none_none,SeqAt.RcNeAt.none_none⟩
  | bl b=>cases ry;exact ⟨SeqAt.RcAt.none_bool b,SeqAt.RcNeAt.none_bool b⟩
  | int b=>obtain ⟨t,rfl⟩:=ry;exact ⟨SeqAt.RcAt.none_int b t,SeqAt.RcNeAt.none_int b t⟩
  | str b=>obtain ⟨t,rfl⟩:=ry;exact ⟨SeqAt.RcAt.none_str b t,SeqAt.RcNeAt.none_str b t⟩
  | _=>cases fy
 | bl a =>
  cases rx
  cases y with
  | non=>cases ry;exact ⟨SeqAt.RcAt.bool_none a,SeqAt.RcNeAt.bool_none a⟩
  | bl b=>cases ry;exact ⟨SeqAt.RcAt.bool_bool a b,SeqAt.RcNeAt.bool_bool a b⟩
  | int b=>obtain ⟨t,rfl⟩:=ry;exact ⟨SeqAt.RcAt.bool_int a b t,SeqAt.RcNeAt.bool_int a b t⟩
  | str b=>obtain ⟨t,rfl⟩:=ry;exact ⟨SeqAt.RcAt.bool_str a b t,SeqAt.RcNeAt.bool_str a b t⟩
  | _=>cases fy
 | int a =>
  obtain ⟨t',rfl⟩:=rx
  cases y with
  | non=>cases ry;exact ⟨SeqAt.RcAt.int_none a t',SeqAt.RcNeAt.int_none a t'⟩
  | bl b=>cases ry;exact ⟨SeqAt.RcAt.int_bool a t' b,SeqAt.RcNeAt.int_bool a t' b⟩
  | int b=>obtain ⟨t,rfl⟩:=ry;exact ⟨SeqAt.RcAt.int_int a t' b t,SeqAt.RcNeAt.int_int a t' b t⟩
  | str b=>obtain ⟨t,rfl⟩:=ry;exact ⟨SeqAt.RcAt.int_str a t' b t,SeqAt.RcNeAt.int_str a t' b t⟩
  | _=>cases fy
 | str a =>
  obtain ⟨t',rfl⟩:=rx
  cases y with
  | non=>cases ry;exact ⟨SeqAt.RcAt.str_none a t',SeqAt.RcNeAt.str_none a t'⟩
  | bl b=>cases ry;exact ⟨SeqAt.RcAt.str_bool a t' b,SeqAt.RcNeAt.str_bool a t' b⟩
  | int b=>obtain ⟨t,rfl⟩:=ry;exact ⟨SeqAt.RcAt.str_int a t' b t,SeqAt.RcNeAt.str_int a t' b t⟩
  | str b=>obtain ⟨t,rfl⟩:=ry;exact ⟨SeqAt.RcAt.str_str a t' b t,SeqAt.RcNeAt.str_str a t' b t⟩
  | _=>cases fy
 | _=>cases fx
end
def qe3 (K:yg) (neg:Bool):R2:=fun x y H Q=>(zZ x=true∧zZ y=true∧Q (.bl (if neg then !eqV x y else eqV x y)) H) ∨
 (∃ a b k n,x=.ref a∧y=.ref b∧n≤60∧EqT K H n a b k∧Q (.bl (if neg then !k else k)) H) ∨
 (∃ a kvs,x=.ref a∧y=.ref a∧H a=some (.dK kvs)∧Q (.bl (!neg)) H)
theorem qbl {κ:Type} [DecidableEq κ]:∀ {kb:List (κ×Value)} {k:κ} {v:Value},(kb.map (·.1)).Nodup→(k,v)∈kb→valueAt kb k=some v
 | [],_,_,_,h=>by cases h
 | (k',v')::r,k,v,hn,h=>by
  obtain ⟨h1,h2⟩:=yo.mp (show (k'::r.map (·.1)).Nodup from hn)
  unfold valueAt
  rw [List.find?_cons]
  by_cases e:k'=k
  ·subst e
   simp only [decide_true]
   rcases List.mem_cons.mp h with z | z
   ·cases z;rfl
   ·exact absurd (List.mem_map.mpr ⟨(k',v),z,rfl⟩) h1
  ·simp only [e,decide_false]
   rcases List.mem_cons.mp h with z | z
   ·cases z;exact absurd rfl e
   ·exact qbl h2 z
theorem qcN {A:Around} {s:Shared} {κ:Type} [DecidableEq κ] (kb:List (κ×Value)) (hn:(kb.map (·.1)).Nodup):∀ ka:List (κ×Value),(∀ p∈ka,p∈kb)→PySem.W.KeqHits A s kb ka true
 | [],_=>.nil
 | (k,v)::r,h=>by
  have hv:valueAt kb k=some v:=qbl hn (h (k,v) List.mem_cons_self)
  exact .hit (e:=true) (b:=true) hv (SeqAt.EqAt.same v) (qcN kb hn r fun p hp=>h p (List.mem_cons_of_mem _ hp))
section
variable {X:Cx} {K:yg}
theorem k_eqU (hK:X.K=K) (hu:X.A.units + 100 < cLine):OpR X (compareOp .Eq) (qe3 K false):=by
 subst hK
 intro pins s σ H x y u v Q I rx ry h
 rcases h with ⟨fx,fy,q⟩ | ⟨a,b,k,n,rfl,rfl,hn,e,q⟩ | ⟨a,kvs,rfl,rfl,ea,q⟩
 ·exact (qe2 rx ry fx fy).1 _ _ _ _ ⟨.bl _,H,I,rfl,q⟩
 ·cases rx;cases ry
  exact (qcM I n).2 X.A a b k e (by omega) _ _ _ _ ⟨.bl _,H,I,rfl,q⟩
 ·cases rx;cases ry
  obtain ⟨_,hs,vs,r,d⟩:=(show ObjOk X.prog X.w H s.heap a (.dK kvs) from I.hok a _ ea)
  obtain ⟨_,_,_,_,_,_,_,_,nd⟩:=id d
  refine PySem.W.keq_eq hs hs d d (by omega) (fun _=>qcN vs nd vs fun _ h=>h) ?_
  rw [beq_self_eq_true]
  exact ⟨.bl true,H,I,rfl,q⟩
theorem qaK (hK:X.K=K) (hu:X.A.units + 100 < cLine):OpR X (compareOp .NotEq) (qe3 K true):=by
 subst hK
 intro pins s σ H x y u v Q I rx ry h
 rcases h with ⟨fx,fy,q⟩ | ⟨a,b,k,n,rfl,rfl,hn,e,q⟩ | ⟨a,kvs,rfl,rfl,ea,q⟩
 ·exact (qe2 rx ry fx fy).2 _ _ _ _ ⟨.bl _,H,I,rfl,q⟩
 ·cases rx;cases ry
  exact ne_refs I e (by omega) _ _ _ _ ⟨.bl _,H,I,rfl,q⟩
 ·cases rx;cases ry
  obtain ⟨_,hs,vs,r,d⟩:=(show ObjOk X.prog X.w H s.heap a (.dK kvs) from I.hok a _ ea)
  obtain ⟨_,_,_,_,_,_,_,_,nd⟩:=id d
  refine PySem.W.keq_ne hs hs d d (by omega) (fun _=>qcN vs nd vs fun _ h=>h) ?_
  rw [beq_self_eq_true]
  exact ⟨.bl false,H,I,rfl,q⟩
end
section
variable {X:Cx} {K:yg}
def qg6 (K:yg):R2:=fun x y H Q=>rIx K x y H Q∨∃ a v,x=.ref a∧DGet H a y (some v)∧Q v H
theorem qy (hK:X.K=K) (hu:X.A.units + 100 < cLine):IxR X (qg6 K):=by
 subst hK
 refine IxR.or ix_seq ?_
 intro value slice pins s σ H x y v u Q I rx ry h hs
 obtain ⟨a,z,rfl,g,q⟩:=h
 cases rx
 exact tail_any (dict_typeIs I g) PySem.F.slot_dict_getitem.lookup (d_getItem (by omega) I g ry fun w' s3 I3 rw'=>⟨z,H,I3,rw',q⟩) hs
def rSetU:qfM:=fun o i v H Q=>qfq o i v H Q∨∃ a H',o=.ref a∧DPut H a i v H'∧Q H'
theorem jZ (hu:X.A.units + 100 < cLine):qgw X rSetU:=by
 intro pins s σ H o i v ov iv u Q I ro ri rv h
 rcases h with h | ⟨a,H',rfl,g,q⟩
 ·exact set_list pins s σ H o i v ov iv u Q I ro ri rv h
 ·cases ro
  exact d_setItem (by omega) I g ri rv fun s' I'=>⟨H',I',q⟩
def qe4 (K:yg) (neg:Bool):R2:=fun x y H Q=>rIn K neg x y H Q∨(∃ a o,y=.ref a∧DGet H a x o∧Q (.bl (if neg then !o.isSome else o.isSome)) H) ∨
 (∃ p xs e n,y=.ref p∧SqL K H p xs∧n≤60∧(∀ z∈xs,EqD K H n z x (e z))∧Q (.bl (if neg then !xs.any e else xs.any e)) H)
theorem qe5 {pins:List (Addr×Obj)} {σ:St} {H:Hp} {s:Shared} {xs:List V} {its:List Value} {x:V} {u:Value} {e:V→Bool} {n:Nat} {A:Around} (I:Inv X pins σ H s) (r:Vals xs its) (rx:RelV x u) (hu:A.units + n < cLine) (he:∀ z∈xs,EqD X.K H n z x (e z)) :
  ∃ e':Value→Bool,(∀ w,w∈its.toArray→SeqAt.EqAt A s w u (e' w))∧its.toArray.any e'=xs.any e:=by
 classical
 refine ⟨fun w=>decide (∃ z∈xs,RelV z w∧e z=true),fun w hw=>?_,?_⟩
 ·have hw':w∈its:=by simpa using hw
  obtain ⟨j,hj⟩:=List.mem_iff_getElem?.mp hw'
  obtain ⟨z,hz,rz⟩:=jx r hj
  have hm:=ye hz
  have eq:decide (∃ z∈xs,RelV z w∧e z=true)=e z:=by
   cases q:e z with
   | true=>exact decide_eq_true ⟨z,hm,rz,q⟩
   | false =>
    refine yl fun ⟨z',_,rz',q'⟩=>?_
    rw [RelV.inj rz' rz,q] at q'
    cases q'
  show SeqAt.EqAt A s w u (decide (∃ z∈xs,RelV z w∧e z=true))
  rw [eq]
  exact (qcM I n).1 A z x (e z) w u (he z hm) rz rx hu
 ·rw [Bool.eq_iff_iff,List.any_eq_true]
  constructor
  ·intro h
   have h':its.any (fun w=>decide (∃ z∈xs,RelV z w∧e z=true))=true:=by simpa using h
   obtain ⟨w,_,q⟩:=List.any_eq_true.mp h'
   obtain ⟨z,hz,_,ez⟩:=yk q
   exact ⟨z,hz,ez⟩
  ·rintro ⟨z,hz,ez⟩
   obtain ⟨j,hj⟩:=List.mem_iff_getElem?.mp hz
   obtain ⟨w,hw,rz⟩:=r.get hj
   have:its.any (fun w=>decide (∃ z∈xs,RelV z w∧e z=true))=true:=List.any_eq_true.mpr ⟨w,ye hw,decide_eq_true ⟨z,hz,rz,ez⟩⟩
   simpa using this
theorem qa6 (hK:X.K=K) (hu:X.A.units + 100 < cLine):OpR X (compareOp .In) (qe4 K false):=by
 subst hK
 intro pins s σ H x y u v Q I rx ry h
 rcases h with h | ⟨a,o,rfl,g,q⟩ | ⟨p,xs,e,n,rfl,hl,hn,he,q⟩
 ·exact op_in_seq pins s σ H x y u v Q I rx ry h
 ·cases ry
  exact d_in (by omega) I g rx fun s' I'=>⟨.bl _,H,I',rfl,q⟩
 ·cases ry
  obtain ⟨its,r,pl,hz⟩:=I.list hl
  obtain ⟨e',h1,h2⟩:=qe5 (A:=X.A.in1) I r rx (by show X.A.units + 1 + n < cLine;omega) he
  exact SeqAt.in_listAt e' pl.isList h1 (by rw [h2];exact ⟨.bl _,H,I,rfl,q⟩)
theorem jT (hK:X.K=K) (hu:X.A.units + 100 < cLine):OpR X (compareOp .NotIn) (qe4 K true):=by
 subst hK
 intro pins s σ H x y u v Q I rx ry h
 rcases h with h | ⟨a,o,rfl,g,q⟩ | ⟨p,xs,e,n,rfl,hl,hn,he,q⟩
 ·exact op_notIn_seq pins s σ H x y u v Q I rx ry h
 ·cases ry
  exact d_notIn (by omega) I g rx fun s' I'=>⟨.bl _,H,I',rfl,q⟩
 ·cases ry
  obtain ⟨its,r,pl,hz⟩:=I.list hl
  obtain ⟨e',h1,h2⟩:=qe5 (A:=X.A.in1) I r rx (by show X.A.units + 1 + n < cLine;omega) he
  exact SeqAt.notIn_listAt e' pl.isList h1 (by rw [h2];exact ⟨.bl _,H,I,rfl,q⟩)
def rListU (K:yg):List V→Hp→VK→Prop:=fun xs H Q=>(∃ p ys,xs=[.ref p]∧(SqL K H p ys∨SqT K H p ys)∧∀ l,H l=none→Q (.ref l) (upd H l (.lst ys))) ∨
 (∃ p kvs,xs=[.ref p]∧H p=some (.dK kvs)∧∀ l,H l=none→Q (.ref l) (upd H l (.lst (kvs.map fun kv=>kV kv.1)))) ∨
 (∃ x,xs=[.str x]∧x.length≤1000∧∀ l,H l=none→Q (.ref l) (upd H l (.lst (x.cps.toList.map fun c=>.str ⟨#[c]⟩))))
theorem qbF {α β:Type} {F:α→β→Prop}:∀ {l:List α} {m:List β} {j:Nat} {a:α},Paired F l m→l[j]?=some a→∃ b,m[j]?=some b∧F a b
 | _,_,_,_,.nil,e=>by simp at e
 | _,_,0,_,.cons r _,e=>by simp at e;subst e;exact ⟨_,rfl,r⟩
 | _,_,j + 1,a,.cons _ t,e=>by
  obtain ⟨b,h1,h2⟩:=qbF (j:=j) (a:=a) t (by simpa using e)
  exact ⟨b,by simpa using h1,h2⟩
theorem qan:∀ {ys:List V} {us:List Value},ys.length=us.length→(∀ (j:Nat) y u,ys[j]?=some y→us[j]?=some u→RelV y u)→Vals ys us
 | [],[],_,_=>.nil
 | [],_::_,h,_=>by cases h
 | _::_,[],h,_=>by cases h
 | y::ys,u::us,h,q=>.cons (q 0 y u rfl rfl) (qan (Nat.succ.inj h) fun j y' u' h1 h2=>q (j + 1) y' u' (by simpa using h1) (by simpa using h2))
theorem qbR (hK:X.K=K) (hc:X.calm=true):zY X (.type "list") (rListU K):=by
 subst hK
 intro pins s σ H xs us Q I r h
 rcases h with h | ⟨p,kvs,rfl,ea,q⟩ | ⟨x,rfl,hx,q⟩
 ·exact call_list_of pins s σ H xs us Q I r h
 ·obtain ⟨u,rfl,ru⟩:=qbf r
  cases ru
  obtain ⟨hz,hs,vs,rv,d⟩:=(show ObjOk X.prog X.w H s.heap p (.dK kvs) from I.hok p _ ea)
  obtain ⟨ep,hat⟩:=d.dictAt
  have hl:kvs.length=vs.length:=rv.length
  refine PySem.W.kdl_call (PySem.W.kdl_dict (knd:=jd X.prog X.w) (kvs:=vs) (ep:=ep) hs) (I.ok.hd hc) hat (by rw [← hl];exact hz) fun h' tk acc' c' kp e it=>?_
  obtain ⟨i1,i2⟩:=it
  have hv:Vals (kvs.map fun kv=>kV kv.1) acc'.toList:=by
   refine qan (by rw [ya,hl,← i1];simp) fun j y u h1 h2=>?_
   obtain ⟨k,x,h3,h4⟩:=i2 j u (by simpa using h2)
   rw [yd] at h1
   cases q1:kvs[j]? with
   | none=>rw [q1] at h1;cases h1
   | some kv =>
    rw [q1] at h1
    cases h1
    obtain ⟨q2,h5,h6,h7⟩:=qbF rv q1
    rw [h3] at h5
    cases h5
    have e1:kv.1=k:=h6
    show RelV (kV kv.1) u
    rw [e1]
    rcases qN (show qcA k u=true from h4) with ⟨i,t,rfl,rfl⟩ | ⟨z,t,rfl,rfl⟩
    ·exact ⟨t,rfl⟩
    ·exact ⟨t,rfl⟩
  refine ⟨.ref s.heap.objs.size,_,I.laid (t':=tk) kp (yh _) (show ObjOk X.prog X.w _ h' _ (.lst (kvs.map fun kv=>kV kv.1)) from ⟨by rw [ya];exact hz,acc'.toList,c',hv,by simpa using e⟩),rfl,q _ (I.hok.fresh (yh _))⟩
 ·obtain ⟨u,rfl,t,rfl⟩:=qbf r
  have hsz:x.cps.size≤sizeLine:=Nat.le_of_lt (qk hx)
  refine call_list_str (I.ok.hd hc) x t (fun h' tk acc' c' kp e it=>?_) hsz
  obtain ⟨i1,i2⟩:=it
  have hv:Vals (x.cps.toList.map fun c=>V.str ⟨#[c]⟩) acc'.toList:=by
   refine qan (by rw [ya];simp [i1]) fun j y u h1 h2=>?_
   obtain ⟨c,t',h3,rfl⟩:=i2 j u (by simpa using h2)
   rw [yd] at h1
   have h3':x.cps.toList[j]?=some c:=by simpa using h3
   rw [h3'] at h1
   cases h1
   exact ⟨t',rfl⟩
  refine ⟨.ref s.heap.objs.size,_,I.laid (t':=tk) kp (yh _) (show ObjOk X.prog X.w _ h' _ (.lst (x.cps.toList.map fun c=>V.str ⟨#[c]⟩)) from ⟨by rw [ya];simpa using hsz,acc'.toList,c',hv,by simpa using e⟩),rfl,q _ (I.hok.fresh (yh _))⟩
end
structure CMethOk (P:Program) (w:World) (K:yg) (mg:Str→Option Value) (base:Heap) (CX:CXT) (k:Nat) (C:Addr) (x m:Str) (ps:List Str) (sp:Sp):Prop where
 ex:∃ f fd,FnOk P w K mg base CX k f fd ps sp∧CMeth K C m f∧Binds K fd ps []
 mg_:mg x=some (.ref C)
section
variable {X:Cx} {k:Nat} {C:Addr} {ps:List Str} {sp:Sp} {x m:Str} {p pos apos:Pos} {e:Expr} {es:List Expr} {t:TA}
theorem pe_makeQ (D:MakeOk X.prog X.w X.K X.mg X.base CX0 k C x ps sp) (hr:Room (k + 1) X.A) (ha:PA X (e::es) t) (hg:Gl X x:=by rfl) (hdb:(x==("__debug__":Str))=false:=by decide)
  (he:starEach (e::es) X.env=(false,eval e X.env)::starEach es X.env:=by rfl) (hpl:(backTo pos (starEach es X.env)).any (·.1)=false:=by rfl):PE X (.Call (.Name x p) (e::es) [] pos) (qfp C sp [] E0 t):=by
 obtain ⟨f,fd,F,M,hb⟩:=D.ex
 exact pe_make M F hr hg D.mg_ hb .nil qz ha hdb he hpl
theorem zR {pl:Sem Bool} (D:CMethOk X.prog X.w X.K X.mg X.base CX0 k C x m ps sp) (hr:Room k X.A) (ha:PA X (e::es) t) (hg:Gl X x:=by rfl) (hdb:(x==("__debug__":Str))=false:=by decide)
  (hst:starEach (e::es) X.env=(false,eval e X.env)::starEach es X.env:=by rfl) (hpl:(backTo pos (starEach es X.env)).any (·.1)=false:=by rfl)
  (ht:eval (.Call (.Attribute (.Name x p) m apos) (e::es) [] pos) X.env=(do
   let ov ← eval (.Name x p) X.env
   standAt apos.atName
   let (f,first) ← holding [ov] (getMethod ov m pl)
   callWith pos f first (backTo pos (starEach (e::es) X.env)) (backToKw pos (keywordEach [] X.env))):=by rfl) :
  PE X (.Call (.Attribute (.Name x p) m apos) (e::es) [] pos) (qcE sp [] E0 t):=by
 obtain ⟨f,fd,F,M,hb⟩:=D.ex
 exact pe_clsm (pl:=pl) M F hr hg D.mg_ hb qz ha hdb hst hpl ht
end
theorem own_eq_same {prog:Program} {w:World} {A:Around} {E:Value→Shared→Prop} {s:Shared} {K:yg} {x C:Addr} {ox:Obj} {od:Option Obj} {Q:Value→Shared→Prop} (hu:A.units < cLine) (X:K.In s.heap) (I:PySem.W.InstAt s.heap x ox C od)
  (hs:PySem.W.findIn K (.ref C) "__eq__"=some (some (.builtin "object.__eq__"))) (ho:PySem.W.mroIn K C (.type "object")=some true) (h:Q (.bool true) s):wpAny (model prog w) A (richCompare .Eq (.ref x) (.ref x)) Q E s:=by
 have call1:∀ {A':Around} {Q':Value→Shared→Prop},Q' (.bool true) s→wpAny (model prog w) A' (call (.builtin "object.__eq__") [.ref x,.ref x]) Q' E s:=fun {A' Q'} q=>by
  refine wpAny_call (codeAny_call_builtin PySem.F.slot_object_eq.plain PySem.F.entry_object_eq (@PySem.W.check_slot (model prog w) _ _ s "object.__eq__" "object" "__eq__" (.ref x) [.ref x] [] _ (by decide +kernel) (by decide +kernel) (I.type.andThen (PySem.W.looks_mroIn X ho)) (PySem.F.args_object_eq_2 _ _) ?_))
  refine wpAny_bind (wpAny_pure (wpAny_bind (wpAny_isSame_ref_self ?_)))
  exact wpAny_pure q
 have one:wpAny (model prog w) A (tryCompare (.ref x) "__eq__" (.ref x)) (fun r s'=>∃ v,r=some v∧Q v s') E s:=by
  unfold tryCompare
  refine wpAny_bind ?_
  simp only [callSpecialIfBound?,bindSpecialIfBound?]
  refine wpAny_holding (wpAny_bind (wpAny_bind (wpAny_bind (I.type.here ((PySem.W.looks_findIn X hs).here ?_)))))
  refine wpAny_bind (wpAny_askSetting (wpAny_ite ?_))
  have b:=PySem.F.slot_object_eq.bind (.ref x)
  have fin:wpAny (model prog w) A (call (.builtin "object.__eq__") ([.ref x]++[.ref x])>>=fun v=>pure (some v)) (fun r s'=>wpAny (model prog w) A (match r with | some .notImplemented | none=>pure none | some v=>pure (some v)) (fun r s'=>∃ v,r=some v∧Q v s') E s') E s:=
   wpAny_bind (call1 (wpAny_pure (wpAny_pure ⟨_,rfl,h⟩)))
  split
  ·exact wpAny_bind (wpAny_of_eq b (wpAny_pure fin))
  ·exact wpAny_tryCatch (wpAny_bind (wpAny_of_eq b (wpAny_pure fin)))
 unfold richCompare
 simp only [oneThing_ref]
 refine wpAny_holding (wpAny_bind (wpAny_cRoomFor hu ?_))
 refine wpAny_bind (I.type.here (wpAny_bind (I.type.here ?_)))
 rw [if_neg (by simp)]
 refine wpAny_bind (wpAny_pure ?_)
 simp only [Bool.false_eq_true,if_false]
 refine wpAny_bind (wpAny_mono one (fun r s' z=>?_) fun _ _ e=>e)
 obtain ⟨v,rfl,hq⟩:=z
 exact wpAny_pure hq
structure OEq (K:yg) (C:Addr):Prop where
 eq:PySem.W.findIn K (.ref C) "__eq__"=some (some (.builtin "object.__eq__"))
 ob:PySem.W.mroIn K C (.type "object")=some true
def qg7 (K:yg):R2:=fun x y H Q=>qe3 K false x y H Q∨∃ a C dx fs,x=.ref a∧y=.ref a∧H a=some (.ins C dx fs)∧OEq K C∧Q (.bl true) H
theorem k_eqW {X:Cx} {K:yg} (hK:X.K=K) (hu:X.A.units + 100 < cLine):OpR X (compareOp .Eq) (qg7 K):=by
 subst hK
 intro pins s σ H x y u v Q I rx ry h
 rcases h with h | ⟨a,C,dx,fs,rfl,rfl,ea,oe,q⟩
 ·exact k_eqU rfl hu pins s σ H x y u v Q I rx ry h
 ·cases rx;cases ry
  obtain ⟨mA,O,_⟩:=qaS I.hok ea
  obtain ⟨od,J,_⟩:=O.look
  exact own_eq_same (by omega) I.kIn J oe.eq oe.ob ⟨.bl true,H,I,rfl,q⟩
theorem jf {X:Cx}:MtR X "list.append" qcG:=mt_append
theorem mtR_pop {X:Cx}:MtR X "list.pop" qg2:=mt_pop
theorem mtR_popAt {X:Cx}:MtR X "list.pop" qeP:=mt_popAt
theorem boot_ValueError:bootBuiltins "ValueError"=some (.type "ValueError"):=by decide +kernel
section
variable {D:Ends} {σ:St} {H:Hp} {Q:VK} {t u:TS} {te ta tb tc:TE} {tas:TA} {K:yg} {sp:Sp} {E:XK} {EK:St→XK} {C:Addr} {f m:Str}
theorem vFldU (h:ta σ H fun x H1=>(∃ a C dx fs v,x=.ref a∧H1 a=some (.ins C dx fs)∧Cls K C∧NoAttr K C f∧fs.lookup f=some v∧Q v H1) ∨
 (∃ a C dx fs v,x=.ref a∧IsX H1 a C (some dx)∧XAt K C∧NoAttr K C f∧H1 dx=some (.xd fs)∧fs.lookup f=some v∧Q v H1)):qf0 K ta f σ H Q:=h
theorem vSFldU (h:te σ H fun y H1=>ta σ H1 fun x H2=>(∃ a C dx fs,x=.ref a∧H2 a=some (.ins C dx fs)∧Cls K C∧NoAttr K C f∧fs.length < 1000∧D.nx σ (upd H2 a (.ins C dx (jR f y fs)))) ∨
 (∃ a C,x=.ref a∧H2 a=some (XN a C none)∧XAt K C∧NoAttr K C f∧∀ dx,H2 dx=none→D.nx σ (upd (upd H2 dx (.xd [(f,y)])) a (XN a C (some dx))))):qf1 K ta te f D σ H:=h
theorem vXMake (h:tas σ H fun vs H1=>vs.length≤1000∧∀ x,H1 x=none→sp (.ref x::vs) (upd H1 x (XN x C none)) (fun v H2=>v=.non∧Q (.ref x) H2) E):qd1 C sp E tas σ H Q:=h
theorem vMake (h:tas σ H fun vs H1=>∀ x dx,H1 x=none→H1 dx=none→dx≠x→sp (.ref x::(vs++[])) (upd (upd H1 dx (.own x)) x (.ins C dx [])) (fun v H2=>v=.non∧Q (.ref x) H2) E):qfp C sp [] E tas σ H Q:=h
theorem vMeth (h:ta σ H fun x H1=>∃ a dx fs,x=.ref a∧H1 a=some (.ins C dx fs)∧fs.lookup m=none∧tas σ H1 fun vs H2=>sp (x::(vs++[])) H2 Q E):qdP C m sp [] E ta tas σ H Q:=h
theorem vVinit (h:tas σ H fun vs H1=>∃ a C y,vs=[.ref a,y]∧H1 a=some (XN a C none)∧XAt K C∧Q .non H1):qeV K tas σ H Q:=h
theorem vCallS (h:tas σ H fun vs H1=>sp vs H1 Q (EK σ)):qeZ sp EK tas σ H Q:=h
theorem vMethS (h:ta σ H fun x H1=>∃ a dx fs,x=.ref a∧H1 a=some (.ins C dx fs)∧fs.lookup m=none∧tas σ H1 fun vs H2=>sp (x::vs) H2 Q (EK σ)):qe0 C m sp EK ta tas σ H Q:=h
theorem vMakeS (h:tas σ H fun vs H1=>∀ x dx,H1 x=none→H1 dx=none→dx≠x→sp (.ref x::vs) (upd (upd H1 dx (.own x)) x (.ins C dx [])) (fun v H2=>v=.non∧Q (.ref x) H2) (EK σ)):tMakeS C sp EK tas σ H Q:=h
theorem vRaise (h:te σ H fun x H1=>∃ a C dx,x=.ref a∧H1 a=some (XN a C dx)∧XAt K C∧EK σ (.ref C) dx (upd H1 a (XO a C dx))):qeY K EK te D σ H:=h
theorem qaL {x y:V} {t cv:Value} {b:Bool} (ty:TyX K H x t) (hy:qcj y=some cv) (hb:PySem.W.kitOne K t cv=some b) (h:Q (.bl b) H):qf2 K [x,y] H Q:=⟨x,y,t,cv,b,rfl,ty,hy,hb,h⟩
end
section
variable {prog:Program} {w:World} {A:Around} {E:Value→Shared→Prop} {s:Shared}
theorem none_dict {a:Addr} {Q:Value→Shared→Prop} (hT:s.TypeIs (.ref a) "dict") (hu:A.units < cLine) (h:Q (.bool false) s):wpAny (model prog w) A (richCompare .Eq .none (.ref a)) Q E s:=by
 refine SeqAt.rc_eq_decline_or (k:=false) rfl hT (by decide) PySem.F.sub_dict_NoneType PySem.F.slot_NoneType_eq PySem.F.slot_dict_eq_refl
  (fun _ hq=>call_gives PySem.F.slot_NoneType_eq rfl PySem.F.entry_NoneType_eq (PySem.F.args_NoneType_eq_2 _ _) (SeqAt.NoneType___eq___none_ref_0 a) hq) (fun Q' hq=>?_) (fun _ hq=>wpAny_of_eq (rfl:isSame .none (.ref a)=pure false) hq) (.inr hu) h
 refine wpAny_call_entry PySem.F.slot_dict_eq_refl hT PySem.F.entry_dict_eq ?_ (PySem.F.args_dict_eq_2 _ _)
 show wpAny _ _ (Builtin.Dict.dictSlotArgs "__eq__" ⟨[.ref a,.none],[]⟩>>=_) _ _ s
 refine wpAny_bind ?_
 unfold Builtin.Dict.dictSlotArgs
 refine wpAny_bind (wpAny_notOrdered_dict hT ?_)
 show wpAny _ _ (pure (Value.ref a,Value.none)) _ _ s
 refine wpAny_pure ?_
 refine wpAny_bind (wpAny_isInstance (T:="NoneType") (b:=false) rfl PySem.F.sub_NoneType_dict ?_)
 simp only [Bool.not_false,if_true]
 exact wpAny_bind (wpAny_rule (wpAny_pure ⟨_,rfl,hq⟩))
theorem none_own {K:yg} {x C:Addr} {ox:Obj} {od:Option Obj} {Q:Value→Shared→Prop} (hu:A.units < cLine) (X:K.In s.heap) (I:PySem.W.InstAt s.heap x ox C od) (oe:OEq K C) (hn:PySem.W.mroIn K C (.type "NoneType")=some false)
  (h:Q (.bool false) s):wpAny (model prog w) A (richCompare .Eq .none (.ref x)) Q E s:=by
 have t1:wpAny (model prog w) A (tryCompare .none "__eq__" (.ref x)) (fun r s'=>r=none∧s'=s) E s:=by
  unfold tryCompare
  refine wpAny_bind ?_
  simp only [callSpecialIfBound?,bindSpecialIfBound?]
  refine wpAny_holding (wpAny_bind (wpAny_bind ?_))
  refine wpAny_bind (wpAny_of_eq (rfl:typeOf .none=pure (.type "NoneType")) ?_)
  refine wpAny_of_eq PySem.F.slot_NoneType_eq.lookup ?_
  refine wpAny_bind (wpAny_askSetting (wpAny_ite ?_))
  have fin:wpAny (model prog w) A (call (.builtin "NoneType.__eq__") ([.none]++[.ref x])>>=fun v=>pure (some v)) (fun r s'=>wpAny (model prog w) A (match r with | some .notImplemented | none=>pure none | some v=>pure (some v)) (fun r s'=>r=none∧s'=s) E s') E s:=
   wpAny_bind (call_gives PySem.F.slot_NoneType_eq rfl PySem.F.entry_NoneType_eq (PySem.F.args_NoneType_eq_2 _ _) (SeqAt.NoneType___eq___none_ref_0 x) (wpAny_pure (wpAny_pure ⟨rfl,rfl⟩)))
  split
  ·exact wpAny_bind (wpAny_of_eq (PySem.F.slot_NoneType_eq.bind .none) (wpAny_pure fin))
  ·exact wpAny_tryCatch (wpAny_bind (wpAny_of_eq (PySem.F.slot_NoneType_eq.bind .none) (wpAny_pure fin)))
 have t2:wpAny (model prog w) A (tryCompare (.ref x) "__eq__" .none) (fun r s'=>r=none∧s'=s) E s:=by
  unfold tryCompare
  refine wpAny_bind ?_
  simp only [callSpecialIfBound?,bindSpecialIfBound?]
  refine wpAny_holding (wpAny_bind (wpAny_bind (wpAny_bind (I.type.here ((PySem.W.looks_findIn X oe.eq).here ?_)))))
  refine wpAny_bind (wpAny_askSetting (wpAny_ite ?_))
  have b:=PySem.F.slot_object_eq.bind (.ref x)
  have c:∀ {Q':Value→Shared→Prop},Q' .notImplemented s→wpAny (model prog w) A (call (.builtin "object.__eq__") [.ref x,.none]) Q' E s:=fun {Q'} q=>by
   refine wpAny_call (codeAny_call_builtin PySem.F.slot_object_eq.plain PySem.F.entry_object_eq (@PySem.W.check_slot (model prog w) _ _ s "object.__eq__" "object" "__eq__" (.ref x) [.none] [] _ (by decide +kernel) (by decide +kernel) (I.type.andThen (PySem.W.looks_mroIn X oe.ob)) (PySem.F.args_object_eq_2 _ _) ?_))
   refine wpAny_bind (wpAny_pure (wpAny_bind (wpAny_of_eq (rfl:isSame (.ref x) .none=pure false) ?_)))
   exact wpAny_pure q
  have fin:wpAny (model prog w) A (call (.builtin "object.__eq__") ([.ref x]++[.none])>>=fun v=>pure (some v)) (fun r s'=>wpAny (model prog w) A (match r with | some .notImplemented | none=>pure none | some v=>pure (some v)) (fun r s'=>r=none∧s'=s) E s') E s:=
   wpAny_bind (c (wpAny_pure (wpAny_pure ⟨rfl,rfl⟩)))
  split
  ·exact wpAny_bind (wpAny_of_eq b (wpAny_pure fin))
  ·exact wpAny_tryCatch (wpAny_bind (wpAny_of_eq b (wpAny_pure fin)))
 unfold richCompare
 refine wpAny_holding (wpAny_bind (wpAny_cRoomFor hu ?_))
 show wpAny _ _ (typeOf .none>>=_) _ _ _
 refine wpAny_bind (wpAny_of_eq (rfl:typeOf .none=pure (.type "NoneType")) (wpAny_bind (I.type.here ?_)))
 rw [if_pos (by rfl)]
 refine wpAny_bind ((PySem.W.looks_mroIn X hn).here ?_)
 simp only [Bool.false_eq_true,if_false]
 refine wpAny_bind (wpAny_mono t1 (fun r s' z=>?_) fun _ _ e=>e)
 obtain ⟨rfl,rfl⟩:=z
 simp only [Bool.not_false,if_true]
 refine wpAny_bind (wpAny_mono t2 (fun r s' z=>?_) fun _ _ e=>e)
 obtain ⟨rfl,rfl⟩:=z
 refine wpAny_bind (wpAny_rule (wpAny_bind (wpAny_of_eq (rfl:isSame .none (.ref x)=pure false) (wpAny_pure h))))
end
def rNoneRef (K:yg):R2:=fun x y H Q=>∃ a,x=.non∧y=.ref a∧((∃ xs,SqL K H a xs∨SqT K H a xs)∨(∃ kvs,H a=some (.dK kvs))∨∃ C dx fs,H a=some (.ins C dx fs)∧OEq K C∧PySem.W.mroIn K C (.type "NoneType")=some false)∧Q (.bl false) H
def qfE (K:yg):R2:=fun x y H Q=>qg7 K x y H Q∨rNoneRef K x y H Q
theorem qaz {X:Cx} {K:yg} (hK:X.K=K) (hu:X.A.units + 100 < cLine):OpR X (compareOp .Eq) (qfE K):=by
 intro pins s σ H x y u v Q I rx ry h
 rcases h with h | ⟨a,rfl,rfl,h,q⟩
 ·exact k_eqW hK hu pins s σ H x y u v Q I rx ry h
 ·subst hK
  cases rx;cases ry
  have fin:EP X pins σ Q (.bool false) s:=⟨.bl false,H,I,rfl,q⟩
  rcases h with ⟨xs,hl | hl⟩ | ⟨kvs,ea⟩ | ⟨C,dx,fs,ea,oe,hn⟩
  ·obtain ⟨its,r,pl,_⟩:=I.list hl
   exact SeqAt.RcAt.none_list pl.isList (by omega) _ _ _ _ fin
  ·obtain ⟨its,r,pl,_⟩:=I.tuple hl
   exact SeqAt.RcAt.none_tuple pl (by omega) _ _ _ _ fin
  ·obtain ⟨_,_,vs,_,d⟩:=(show ObjOk X.prog X.w H s.heap a (.dK kvs) from I.hok a _ ea)
   exact none_dict d.typeIs (by omega) fin
  ·obtain ⟨mA,O,_⟩:=qaS I.hok ea
   obtain ⟨od,J,_⟩:=O.look
   exact none_own (by omega) I.kIn J oe hn fin
def XL (K:yg) (C:Addr) (bm:List Value):Prop:=∃ nm qn N bs hdct sn sub ab col dd k0 k1 k2 k3 k5,K.lookup C=some (excClassObj nm qn C N bs bm hdct sn sub ab col dd k0 k1 k2 k3 k5 "ValueError.__new__")
section
variable {K:yg} {C D:Addr} {bm bn:List Value}
theorem XL.xat (x:XL K C bm) (hb:qb0 bm=true)
  (ga:PySem.W.findIn K (.ref C) "__getattribute__"=some (some (.builtin "BaseException.__getattribute__"))) (gn:PySem.W.findIn K (.ref C) "__getattr__"=some none)
  (bx:PySem.W.mroIn K C (.type "BaseException")=some true) (ob:PySem.W.mroIn K C (.type "object")=some true) (hd:PySem.W.hasDictIn K C=true) (cl:PySem.W.findIn K (.ref C) "__class__"=some (some (.builtin "object.__class__")))
  (cg:PySem.W.specialIn K (.builtin "object.__class__") "__get__"=some (some (.builtin "getset_descriptor.__get__"))) (ct:PySem.W.takesIn K (.builtin "object.__class__")=some true)
  (sa:PySem.W.findIn K (.ref C) "__setattr__"=some (some (.builtin "object.__setattr__"))):XAt K C:=by
 obtain ⟨nm,qn,N,bs,hdct,sn,sub,ab,col,dd,k0,k1,k2,k3,k5,e⟩:=x
 refine ⟨ga,gn,bx,ob,hd,cl,cg,ct,sa,?_,?_⟩
 ·unfold PySem.W.clsIn
  rw [e]
  exact hb
 ·unfold qgp
  rw [e]
  simp [hb]
theorem XL.kit (x:XL K C bm) (y:XL K D bn):PySem.W.kitOne K (.ref C) (.ref D)=some ((Value.ref C::bm).contains (.ref D)):=by
 obtain ⟨nm,qn,N,bs,hdct,sn,sub,ab,col,dd,k0,k1,k2,k3,k5,e⟩:=x
 obtain ⟨nm',qn',N',bs',hdct',sn',sub',ab',col',dd',k0',k1',k2',k3',k5',e'⟩:=y
 unfold PySem.W.kitOne PySem.W.kitCls
 split
 ·rename_i z
  have z:C=D:=Value.ref.inj (beq_iff_eq.mp z)
  subst z
  simp
 ·dsimp only
  have q1:(PySem.W.clsIn K D).isSome=true:=by unfold PySem.W.clsIn;rw [e'];rfl
  have q2:(PySem.W.typeIn K (.ref D)==some (.type "type"))=true:=by show ((K.lookup D).map (·.cls)==_)=true;rw [e'];rfl
  rw [if_pos (by rw [q1,q2];rfl)]
  unfold PySem.W.subIn PySem.W.mroIn PySem.W.clsIn
  dsimp only
  rw [e]
  rfl
theorem XL.kitT (x:XL K C bm) {T:String} (h:PySem.W.kitMeta T=true):PySem.W.kitOne K (.ref C) (.type T)=some (bm.contains (.type T)):=by
 obtain ⟨nm,qn,N,bs,hdct,sn,sub,ab,col,dd,k0,k1,k2,k3,k5,e⟩:=x
 unfold PySem.W.kitOne PySem.W.kitCls
 split
 ·rename_i z
  exact absurd (beq_iff_eq.mp z) nofun
 ·dsimp only
  rw [if_pos h]
  unfold PySem.W.subIn PySem.W.mroIn PySem.W.clsIn
  dsimp only
  rw [e]
  show some ((Value.ref C::bm).contains _)=_
  rw [List.contains_cons]
  rfl
abbrev qaV:List Value:=[.type "ValueError",.type "Exception",.type "BaseException",.type "object"]
theorem qd4:qb0 qaV=true:=by decide
theorem qaA {c:Addr}:qb0 (.ref c::qaV)=true:=qd4
theorem kits {K:yg} {cs:List Addr} {c:Addr} (hn:(cs++[c]).Nodup) (h:∀ i,i < cs.length→XL K (cs.getD i c) (.ref c::qaV)) (hc:XL K c qaV) :
  (∀ i j,i < cs.length→j < cs.length→PySem.W.kitOne K (.ref (cs.getD i c)) (.ref (cs.getD j c))=some (decide (i=j)))∧(∀ i,i < cs.length + 1→PySem.W.kitOne K (.ref (cs.getD i c)) (.ref c)=some true) ∧
  (∀ i,i < cs.length + 1→PySem.W.kitOne K (.ref (cs.getD i c)) (.type "ValueError")=some true)∧∀ j,j < cs.length→PySem.W.kitOne K (.ref c) (.ref (cs.getD j c))=some false:=by
 have gd:∀ (j:Nat) (hj:j < cs.length),cs.getD j c=cs[j]:=fun j hj=>by simp [List.getD,hj]
 have hl:cs.getD cs.length c=c:=by simp
 have hne:∀ j,j < cs.length→c≠cs.getD j c:=fun j hj e=>by
  have h2:=(List.nodup_append.mp hn).2.2 (cs.getD j c) (by rw [gd j hj];exact List.getElem_mem hj) c (by simp)
  exact h2 e.symm
 refine ⟨fun i j hi hj=>?_,fun i hi=>?_,fun i hi=>?_,fun j hj=>?_⟩
 ·rw [(h i hi).kit (h j hj)]
  congr 1
  rw [List.contains_cons,List.contains_cons]
  have e1:((Value.ref (cs.getD j c))==Value.ref c)=false:=beq_eq_false_iff_ne.mpr fun e=>hne j hj (Value.ref.inj e).symm
  have e2:List.contains qaV (Value.ref (cs.getD j c))=false:=rfl
  rw [e1,e2]
  by_cases hij:i=j
  ·subst hij;simp
  ·have e3:((Value.ref (cs.getD j c))==Value.ref (cs.getD i c))=false:=beq_eq_false_iff_ne.mpr fun e=>by
    have e:=Value.ref.inj e
    rw [gd i hi,gd j hj] at e
    have hp:=List.pairwise_iff_getElem.mp (List.nodup_append.mp hn).1
    rcases Nat.lt_or_gt_of_ne hij with q | q
    ·exact hp i j hi hj q e.symm
    ·exact hp j i hj hi q e
   rw [e3];simp [hij]
 ·rcases Nat.lt_or_ge i cs.length with hi' | hi'
  ·rw [(h i hi').kit hc,List.contains_cons,List.contains_cons];simp
  ·have:i=cs.length:=by omega
   subst this
   rw [hl,hc.kit hc];simp
 ·rcases Nat.lt_or_ge i cs.length with hi' | hi'
  ·rw [(h i hi').kitT (by decide +kernel)];rfl
  ·have:i=cs.length:=by omega
   subst this
   rw [hl,hc.kitT (by decide +kernel)];rfl
 ·rw [hc.kit (h j hj),List.contains_cons]
  have e1:((Value.ref (cs.getD j c))==Value.ref c)=false:=beq_eq_false_iff_ne.mpr fun e=>hne j hj (Value.ref.inj e).symm
  rw [e1];rfl
end
end L2
namespace HT
open PySem PySem.Spec PyProof.Rows
section
variable {prog:Program} {w:World} {A:Around} {E:Value→Shared→Prop} {s:Shared}
end
end HT
namespace L2
open PySem PySem.Spec PyProof.Rows
def tRev (K:yg) (te:TE) (ts:TO):TE:=fun σ H Q=>te σ H fun x H1=>ts σ H1 fun o H2=>o=some (-1)∧∃ a y z,x=.ref a∧SqT K H2 a [y,z]∧∀ p,H2 p=none→Q (.ref p) (upd H2 p (.tup [z,y]))
theorem vRev {K:yg} {te:TE} {ts:TO} {σ:St} {H:Hp} {Q:VK} (h:te σ H fun x H1=>ts σ H1 fun o H2=>o=some (-1)∧∃ a y z,x=.ref a∧SqT K H2 a [y,z]∧∀ p,H2 p=none→Q (.ref p) (upd H2 p (.tup [z,y]))):tRev K te ts σ H Q:=h
section
variable {X:Cx} {K:yg} {e st:Expr} {te:TE} {ts:TO} {p2 pos:Pos}
def rTupleU (K:yg):List V→Hp→VK→Prop:=fun xs H Q=>∃ p ys,xs=[.ref p]∧((SqL K H p ys∧∀ l,H l=none→Q (.ref l) (upd H l (.tup ys)))∨(SqT K H p ys∧Q (.ref p) H))
theorem k_tupleU (hK:X.K=K):zY X (.type "tuple") (rTupleU K):=by subst hK;exact call_tuple_of
end
theorem Inv.turnedL {X:Cx} {pins:List (Addr×Obj)} {σ:St} {H:Hp} {s:Shared} {h':Heap} {t':Nat} {fp:List Addr} (I:Inv X pins σ H s) (k:∀ b o,b∉fp→s.heap.get? b=some o→h'.get? b=some o) (hf:∀ b∈fp,qcC X pins H b):Inv X pins σ H { s with heap:=h',toks:=t' }:=by
 have nit:∀ b u,H b=some u→b∉fp:=fun b u e z=>by rw [(hf b z).1] at e;cases e
 have hL:X.env.locals∉fp:=fun z=>(hf _ z).2.1 rfl
 refine I.step (g':=s.gens) (d':=s.drawn) (ch:=fp) (fun b hb=>?_) (fun b o _ _ hc e _=>k b o hc e) (fun b o _ _ hc e _=>⟨o.slots,k b o hc e⟩) (fun _ _ _ _ n=>n)
  (fun b o hc e=>⟨o,k b o hc e⟩) (fun _ _ e=>e) (fun _ _ _ e=>e) (fun b ps e=>⟨#[],by rw [e];simp⟩) (fun m hm=>?_) (fun b u e=>?_) I.bare
 ·obtain ⟨f0,f1,f2,f3,f4,f5⟩:=hf b hb
  exact ⟨f3,f1,f4,f5⟩
 ·obtain ⟨o,es,ep,ho,r⟩:=hm
  exact ⟨o,es,ep,k _ o hL ho,r⟩
 ·refine (I.hok b u e).stay (fun c v hc q=>k c v ?_ q) (fun _ q=>q) fun _ _ q=>q
  rcases hc with z | z
  ·rw [z];exact nit b u e
  ·exact nit c _ z
def Ite (K:yg) (a:Addr):It:=
 ⟨fun i H=>∃ xs x,SqL K H a xs∧xs[i]?=some x,fun i H x H'=>∃ t y,x=.ref t∧H t=none∧H'=upd H t (.tup [.int i,y])∧∀ xs,SqL K H a xs→xs[i]?=some y,fun i H=>∃ xs,SqL K H a xs∧xs.length≤i⟩
theorem push_some {h:Heap} {o v:Obj} {b:Addr} (e:(h.push o).get? b=some v) (ne:b≠h.objs.size):h.get? b=some v:=(Heap.get?_push_cases e).elim (fun z=>absurd z.1 ne) fun z=>z
def iEnum (K:yg) (ta:TA):TI:=fun σ H R=>ta σ H fun vs H1=>∃ a xs,vs=[.ref a]∧SqL K H1 a xs∧R (Ite K a) H1
theorem vEnum {K:yg} {tas:TA} {σ:St} {H:Hp} {R:It→Hp→Prop} (h:tas σ H fun vs H1=>∃ a xs,vs=[.ref a]∧SqL K H1 a xs∧R (Ite K a) H1):iEnum K tas σ H R:=h
section
variable {X:Cx}
end
end L2
namespace L2
open PySem PySem.Spec PyProof.Rows PySem.Builtin PySem.Builtin.Str
theorem qe6 {a c:Nat} (h:a + 100 < c):a + 1 < c:=by omega
theorem vDGet2 {td ty tx:TE} {σ:St} {H:Hp} {Q:VK} (h:td σ H fun x H1=>∃ a,x=.ref a∧IsD H1 a∧ty σ H1 fun y H2=>tx σ H2 fun z H3=>∃ o,DGet H3 a y o∧Q (o.getD z) H3):tDGet2 td ty tx σ H Q:=h
end L2
namespace L2
open PySem PySem.Spec PyProof.Rows
section
variable {X:Cx} {K:yg}
end
theorem slice_ixD (k n:Nat):Builtin.Str.strSliceIndices (some (k:Int)) none 1 n=(List.range (n - k)).map (k + ·):=by
 unfold Builtin.Str.strSliceIndices sliceRange
 simp only [show (1:Int) > 0 by decide,if_true]
 rw [if_neg (show ¬ ((k:Int) < 0) by omega)]
 have e1:max 0 (min (k:Int) n)=((min k n:Nat):Int):=by omega
 rw [e1]
 by_cases hk:k≤n
 ·rw [Nat.min_eq_left hk]
  have e2:(fun (j:Nat)=>((k:Int) + 1 * (j:Int)).toNat)=(k + ·):=by funext j;omega
  rw [e2]
  congr 2
  split
  ·rw [Int.ediv_one];omega
  ·omega
 ·rw [Nat.min_eq_right (by omega),show n - k=0 by omega]
  rw [if_neg (by omega)]
  rfl
theorem qd5 (a:Array Nat) (k:Nat):∀ m,k + m≤a.size→((List.range m).map (k + ·)).filterMap (a[·]?)=(a.toList.drop k).take m
 | 0,_=>by simp
 | m + 1,h=>by
  rw [List.range_succ,List.map_append,List.filterMap_append,qd5 a k m (by omega),List.take_add_one]
  congr 1
  have e:a[k + m]?=some a[k + m]:=Array.getElem?_eq_getElem (by omega)
  have e':(a.toList.drop k)[m]?=some a[k + m]:=by rw [List.getElem?_drop,Array.getElem?_toList];exact e
  rw [e',List.map_cons,List.filterMap_cons,e]
  rfl
theorem slice_drop (z:Str) (k:Nat):(Txt.slice z (some (k:Int)) none).cps.toList=z.cps.toList.drop k:=by
 unfold Txt.slice
 rw [slice_ixD]
 have hz:z.length=z.cps.toList.length:=by simp [Str.length]
 split
 ·rename_i h
  rw [ya,List.length_range] at h
  have h:z.length - k=z.length:=by simpa using h
  by_cases hk:k=0
  ·subst hk;rw [List.drop_zero]
  ·have:z.cps.toList=[]:=List.length_eq_zero_iff.mp (by omega)
   rw [this];simp
 ·show (List.filterMap _ _).toArray.toList=_
  by_cases hk:k≤z.length
  ·have:=qd5 z.cps k (z.length - k) (by show k + (z.length - k)≤z.length;omega)
   rw [this]
   exact List.take_of_length_le (by rw [List.length_drop];omega)
  ·rw [show z.length - k=0 by omega,List.drop_of_length_le (by omega)]
   rfl
theorem cutV_take (xs:List V) (k:Nat):qcz xs none (some (k:Int))=xs.take k:=by
 unfold qcz
 rw [HT.sIx_none,HT.sIx_nat,List.drop_zero,Nat.sub_zero]
 by_cases h:k≤xs.length
 ·rw [Nat.min_eq_left h]
 ·rw [Nat.min_eq_right (by omega),List.take_of_length_le (yh _),List.take_of_length_le (by omega)]
theorem qaM (xs:List V) (k:Nat):qcz xs (some (k:Int)) none=xs.drop k:=by
 unfold qcz
 rw [HT.sIx_none,HT.sIx_nat]
 by_cases h:k≤xs.length
 ·rw [Nat.min_eq_left h,List.take_of_length_le (by rw [List.length_drop];omega)]
 ·rw [Nat.min_eq_right (by omega),List.drop_length,List.drop_of_length_le (by omega)]
  simp
section
variable {X:Cx} {K:yg}
end
end L2
namespace HT
open PySem PySem.Spec PyProof.Rows
section
variable {prog:Program} {w:World} {A:Around} {E:Value→Shared→Prop} {s:Shared}
end
end HT
namespace L2
open PySem PySem.Spec PyProof.Rows
def tStep (K:yg) (te:TE) (ts:TO):TE:=fun σ H Q=>te σ H fun x H1=>ts σ H1 fun o H2=>∃ a y z,x=.ref a∧SqT K H2 a [y,z]∧((o=some (-1)∧∀ p,H2 p=none→Q (.ref p) (upd H2 p (.tup [z,y])))∨(o=some 1∧Q (.ref a) H2))
theorem vStep {K:yg} {te:TE} {ts:TO} {σ:St} {H:Hp} {Q:VK} (h:te σ H fun x H1=>ts σ H1 fun o H2=>∃ a y z,x=.ref a∧SqT K H2 a [y,z]∧((o=some (-1)∧∀ p,H2 p=none→Q (.ref p) (upd H2 p (.tup [z,y])))∨(o=some 1∧Q (.ref a) H2))):tStep K te ts σ H Q:=h
section
variable {X:Cx} {K:yg} {e st:Expr} {te:TE} {ts:TO} {p2 pos:Pos}
end
def FG (K:yg) (nm:Str) (st:Stmt):Prop:=∃ f fd,PySem.W.nsIn K mainGlobals nm=some (some (.ref f))∧Fun K nm nm st f fd
def FM (K:yg) (C:Addr) (m ql:Str) (st:Stmt):Prop:=∃ f fd,PySem.W.findIn K (.ref C) m=some (some (.ref f))∧PySem.W.isFn K (.ref f)=true∧Fun K m ql st f fd
def FC (K:yg) (C:Addr) (m ql:Str) (st:Stmt):Prop:=∃ f fd,PySem.W.findCls K (.ref C) (.type "type") m=some (.val (.ref f))∧Fun K m ql st f fd
structure XQ (K:yg) (C:Addr):Prop where
 xa:PySem.W.findIn K (.ref C) "__getattribute__"=some (some (.builtin "BaseException.__getattribute__"))
 xb:PySem.W.findIn K (.ref C) "__getattr__"=some none
 xd:PySem.W.mroIn K C (.type "BaseException")=some true
 xe:PySem.W.mroIn K C (.type "object")=some true
 xf:PySem.W.hasDictIn K C=true
 xg:PySem.W.findIn K (.ref C) "__class__"=some (some (.builtin "object.__class__"))
 xh:PySem.W.findIn K (.ref C) "__setattr__"=some (some (.builtin "object.__setattr__"))
 p:PySem.W.keepIn K (.ref C)=true
section
variable {P:Program} {w:World} {K:yg} {mg:Str→Option Value} {base h:Heap} {CX:CXT} {k:Nat} {sp:Sp} {st:Stmt} {f:Addr} {fd:FuncData} {ps:List Str} {nm m ql x:Str} {C:Addr}
abbrev BA (x ql:Str) (st:Stmt) (ps:List Str):Prop:=∀ (kV doc pm:Value) (an:Option Addr) (cdv ct:Value) (us:List Value),us.length=ps.length→bindArgs (PySem.W.fnOf x ql (qo st) (qj st) (qe st) .none kV doc pm an cdv ct) ⟨us,[]⟩=pure (ps.zip us)
theorem fg_mk (X:K.In h) (G:h.Ns mainGlobals mg) (a:PySem.W.nsIn K mainGlobals nm=some (some (.ref f))) (F:Fun K nm nm st f fd) (o:FnOk P w K mg base CX k f fd ps sp)
  (hb:BA nm nm st ps:=by first | (exact fun _ _ _ _ _ _ us hl=>(match us,hl with | [_],_=>rfl)) | (exact fun _ _ _ _ _ _ us hl=>(match us,hl with | [_,_],_=>rfl)) | (exact fun _ _ _ _ _ _ us hl=>(match us,hl with | [_,_,_],_=>rfl)) | (exact fun _ _ _ _ _ _ us hl=>(match us,hl with | [_,_,_,_],_=>rfl))) :
  DefOk P w K mg base CX k nm ps sp:=⟨_,_,o,PySem.W.mg_of X G a,F.kp,F.binds hb⟩
theorem fm_mk (wcl:Cls K C) (a:PySem.W.findIn K (.ref C) m=some (some (.ref f))) (n:PySem.W.isFn K (.ref f)=true) (F:Fun K m ql st f fd) (o:FnOk P w K mg base CX k f fd ps sp)
  (hb:BA m ql st ps:=by first | (exact fun _ _ _ _ _ _ us hl=>(match us,hl with | [_],_=>rfl)) | (exact fun _ _ _ _ _ _ us hl=>(match us,hl with | [_,_],_=>rfl)) | (exact fun _ _ _ _ _ _ us hl=>(match us,hl with | [_,_,_],_=>rfl)) | (exact fun _ _ _ _ _ _ us hl=>(match us,hl with | [_,_,_,_],_=>rfl))) :
  MethOk P w K mg base CX k C m ps sp:=⟨⟨_,_,o,⟨a,n,F.kp⟩,F.binds hb⟩,wcl⟩
theorem fw_mk (X:K.In h) (G:h.Ns mainGlobals mg) (c:PySem.W.nsIn K mainGlobals x=some (some (.ref C))) (w5:PySem.W.makesIn K C=true) (w6:PySem.W.keepIn K (.ref C)=true) (a:PySem.W.findIn K (.ref C) "__init__"=some (some (.ref f))) (n:PySem.W.isFn K (.ref f)=true) (F:Fun K "__init__" ql st f fd) (o:FnOk P w K mg base CX k f fd ps sp)
  (hb:BA "__init__" ql st ps:=by first | (exact fun _ _ _ _ _ _ us hl=>(match us,hl with | [_],_=>rfl)) | (exact fun _ _ _ _ _ _ us hl=>(match us,hl with | [_,_],_=>rfl)) | (exact fun _ _ _ _ _ _ us hl=>(match us,hl with | [_,_,_],_=>rfl))) :
  MakeOk P w K mg base CX k C x ps sp:=⟨⟨_,_,o,⟨w5,a,n,w6⟩,F.binds hb⟩,PySem.W.mg_of X G c⟩
theorem qcO (X:K.In h) (G:h.Ns mainGlobals mg) (c:PySem.W.nsIn K mainGlobals x=some (some (.ref C))) (Y:XAt K C) (q:XQ K C) (a:PySem.W.findIn K (.ref C) "__init__"=some (some (.ref f))) (n:PySem.W.isFn K (.ref f)=true) (F:Fun K "__init__" ql st f fd) (o:FnOk P w K mg base CX0 k f fd ps sp)
  (hb:BA "__init__" ql st ps:=by first | (exact fun _ _ _ _ _ _ us hl=>(match us,hl with | [_],_=>rfl)) | (exact fun _ _ _ _ _ _ us hl=>(match us,hl with | [_,_],_=>rfl))) :
  XMakeOk P w K mg base k C x ps sp:=⟨⟨_,_,o,⟨Y,a,n,q.p⟩,F.binds hb⟩,PySem.W.mg_of X G c⟩
theorem fc_mk (X:K.In h) (G:h.Ns mainGlobals mg) (c:PySem.W.nsIn K mainGlobals x=some (some (.ref C))) (r1:PySem.W.readsIn K C (.type "type")=true) (r2:PySem.W.findCls K (.ref C) (.type "type") m=some (.val (.ref f))) (r3:PySem.W.specialIn K (.ref C) "__getattribute__"=some (some (.builtin "type.__getattribute__"))) (F:Fun K m ql st f fd) (o:FnOk P w K mg base CX k f fd ps sp)
  (hb:BA m ql st ps:=by (exact fun _ _ _ _ _ _ us hl=>(match us,hl with | [_,_],_=>rfl))) :
  CMethOk P w K mg base CX k C x m ps sp:=⟨⟨_,_,o,⟨r1,r2,r3,F.kp⟩,F.binds hb⟩,PySem.W.mg_of X G c⟩
theorem qcm {bm:List Value} (x:XL K C bm) (hb:qb0 bm=true) (q:XQ K C) (w16:PySem.W.specialIn K (.builtin "object.__class__") "__get__"=some (some (.builtin "getset_descriptor.__get__"))) (w17:PySem.W.takesIn K (.builtin "object.__class__")=some true):XAt K C:=x.xat hb q.xa q.xb q.xd q.xe q.xf q.xg w16 w17 q.xh
end
end L2
namespace HT
open PySem PySem.Spec PyProof.Rows
section
variable {prog:Program} {w:World} {A:Around} {E:Value→Shared→Prop} {s:Shared}
end
end HT
namespace L2
open PySem PySem.Spec PyProof.Rows
section
variable {X:Cx} {K:yg} {pos p:Pos} {x:Str}
end
section
variable {X:Cx} {K:yg} {e lo st:Expr} {te:TE} {tl ts:TO} {p2 pos:Pos}
def qg8 (K:yg) (te:TE):TI:=fun σ H R=>te σ H fun v H1=>∃ a xs,v=.ref a∧SqL K H1 a xs∧R (Itl K a) H1
theorem qf3 {K:yg} {te:TE} {σ:St} {H:Hp} {R:It→Hp→Prop} (h:te σ H fun v H1=>∃ a xs,v=.ref a∧SqL K H1 a xs∧R (Itl K a) H1):qg8 K te σ H R:=h
theorem qe7 {tg:Expr} (hK:X.K=K) (he:PE X e te):PI X tg e (qg8 K te):=by
 subst hK
 intro pins s σ H R I h
 refine thn (he pins s σ H _ I h) fun v s1 ⟨y,H1,I1,r1,a,xs,ey,hq,q⟩=>?_
 subst ey
 cases r1
 have fp:∀ b∈[s1.heap.objs.size],qcC X pins H1 b:=fun b hb=>by
  have e:b=s1.heap.objs.size:=by simpa using hb
  subst e
  exact I1.fpOk (yh _) (I1.hok.fresh (yh _))
 obtain ⟨its,rv,p,hz⟩:=I1.list hq
 exact wpAny_pyIter_list p.isList ⟨s1.heap.objs.size,[s1.heap.objs.size],_,_,H1,rfl,I1.kept (t':=s1.toks) fun b o e=>Heap.get?_push_of_some _ e,qb3 a _,⟨_,Heap.get?_push_size _ rfl,rfl,rfl⟩,fp,q⟩
end
def Itz (K:yg) (a b:Addr):It:=
 ⟨fun i H=>∃ xs ys x y,SqL K H a xs∧SqL K H b ys∧xs[i]?=some x∧ys[i]?=some y,fun i H v H'=>∃ t x y,v=.ref t∧H t=none∧H'=upd H t (.tup [x,y])∧(∀ xs,SqL K H a xs→xs[i]?=some x)∧∀ ys,SqL K H b ys→ys[i]?=some y,fun i H=>∃ xs ys,SqL K H a xs∧SqL K H b ys∧(xs.length≤i∨ys.length≤i)⟩
def tnZ (z TI TO i1 i2 a b:Addr) (i:Nat) (h:Heap):Prop:=IsZip h z TI TO .none∧IsPair h TI (.ref i1) (.ref i2)∧(∃ u v,IsPair h TO u v)∧h.IsListIter i1 a i∧h.IsListIter i2 b i
theorem turn_zip {P:Program} {w:World} {K:yg} {es:List Expr} {x1} {pos:Pos} (a b z TI TO i1 i2:Addr) (D:ZipApart z TI TO i1 i2 a b):Turn P w K (.Tuple es x1 pos) (Itz K a b) [z,TI,TO,i1,i2] z (tnZ z TI TO i1 i2 a b) where
 mem:=by simp
 obj:=fun i h st c hc=>by
  obtain ⟨hz,hTI,⟨u,v,hTO⟩,⟨o1,e1,c1,d1⟩,⟨o2,e2,c2,d2⟩⟩:=st
  simp only [List.mem_cons,List.not_mem_nil,or_false] at hc
  rcases hc with rfl | rfl | rfl | rfl | rfl
  ·exact ⟨_,hz,fun v z=>by have z':Data.fields _=Data.cell v:=z;cases z'⟩
  ·exact ⟨_,hTI,fun v z=>by have z':Data.seq _ _=Data.cell v:=z;cases z'⟩
  ·exact ⟨_,hTO,fun v z=>by have z':Data.seq _ _=Data.cell v:=z;cases z'⟩
  ·exact ⟨o1,e1,fun v z=>by rw [d1] at z;cases z⟩
  ·exact ⟨o2,e2,fun v z=>by rw [d2] at z;cases z⟩
 keep:=fun i h h' st k=>by
  obtain ⟨hz,hTI,⟨u,v,hTO⟩,h1,h2⟩:=st
  exact ⟨k z (by simp) _ hz,k TI (by simp) _ hTI,⟨u,v,k TO (by simp) _ hTO⟩,h1.at fun o x=>k i1 (by simp) o x,h2.at fun o x=>k i2 (by simp) o x⟩
 item:=by
  intro X hP hw hK hc i pins s σ H E I hf st hg
  subst hP hw hK
  obtain ⟨hz,hTI,⟨u,v,hTO⟩,h1,h2⟩:=st
  obtain ⟨xs,ys,x,y,hq,hq2,hx,hy⟩:=hg
  obtain ⟨its,rv,p,_⟩:=I.list hq
  obtain ⟨its2,rv2,p2,_⟩:=I.list hq2
  obtain ⟨u1,hu1,ru1⟩:=rv.get hx
  obtain ⟨u2,hu2,ru2⟩:=rv2.get hy
  refine wpAny_pyNext_zip_item D hz hTI hTO h1 h2 p.isList p2.isList (x:=u1) (y:=u2) (by simpa using hu1) (by simpa using hu2) fun h' hz' hTO' h1' h2' hT hsz hk=>?_
  refine ⟨_,rfl,wpAny_letOwnedTupleGo_zip hz' fun h3 hz3 hs3=>?_⟩
  have fre:H s.heap.objs.size=none:=I.hok.fresh (yh _)
  have lt:∀ {c o},s.heap.get? c=some o→s.heap.objs.size≠c:=fun e=>Nat.ne_of_gt (Heap.lt_size e)
  have nz:=lt hz
  have nTI:=lt hTI
  have nTO:=lt hTO
  have n1:s.heap.objs.size≠i1:=by obtain ⟨_,e,_⟩:=h1;exact lt e
  have n2:s.heap.objs.size≠i2:=by obtain ⟨_,e,_⟩:=h2;exact lt e
  have I1:Inv X pins σ (upd H s.heap.objs.size (.tup [x,y])) { s with heap:=s.heap.push { cls:=.type "tuple",data:=.seq #[u1,u2] },toks:=s.toks }:=
   I.laid (fun b u e=>Heap.get?_push_of_some _ e) (yh _) ⟨by show 2≤sizeLine;decide,[u1,u2],.cons ru1 (.cons ru2 .nil),⟨_,Heap.get?_push_size _ rfl,rfl,_,rfl⟩⟩
  have hf1:∀ c∈[z,TI,TO,i1,i2],qcC X pins (upd H s.heap.objs.size (.tup [x,y])) c:=fun c hc=>by
   obtain ⟨f0,f⟩:=hf c hc
   refine ⟨?_,f⟩
   rw [qh]
   ·exact f0
   ·simp only [List.mem_cons,List.not_mem_nil,or_false] at hc
    rcases hc with rfl | rfl | rfl | rfl | rfl
    ·exact nz.symm
    ·exact nTI.symm
    ·exact nTO.symm
    ·exact n1.symm
    ·exact n2.symm
  have kk:∀ c o,c∉[z,TI,TO,i1,i2]→(s.heap.push { cls:=.type "tuple",data:=.seq #[u1,u2] }).get? c=some o→h3.get? c=some o:=fun c o hc e=>by
   simp only [List.mem_cons,List.not_mem_nil,or_false,not_or] at hc
   refine hs3.extBut _ _ hc.1 ?_
   by_cases hz:c=s.heap.objs.size
   ·subst hz
    rw [Heap.get?_push_size _ rfl] at e
    cases e
    exact hT
   ·exact hk c o hc.1 hc.2.2.1 hc.2.2.2.1 hc.2.2.2.2 (push_some e hz)
  have I2:=I1.turnedL (h':=h3) (t':=s.toks) (fp:=[z,TI,TO,i1,i2]) kk hf1
  refine ⟨.ref s.heap.objs.size,_,I2,rfl,⟨_,x,y,rfl,fre,rfl,fun xs' hx'=>by rw [I.list_inj hx' hq];exact hx,fun ys' hy'=>by rw [I.list_inj hy' hq2];exact hy⟩,⟨hz3,?_,⟨_,_,hs3.extBut _ _ D.TOz hTO'⟩,h1'.extBut hs3.extBut D.i1z,h2'.extBut hs3.extBut D.i2z⟩,fun c hc=>(hf1 c hc).1⟩
  exact hs3.extBut _ _ D.TIz (hk _ _ D.TIz D.TITO D.TIi1 D.TIi2 hTI)
 done:=by
  intro X hP hw hK hc i pins s σ H E I hf st hg
  subst hP hw hK
  obtain ⟨hz,hTI,⟨u,v,hTO⟩,h1,h2⟩:=st
  obtain ⟨xs,ys,hq,hq2,he⟩:=hg
  obtain ⟨its,rv,p,_⟩:=I.list hq
  obtain ⟨its2,rv2,p2,_⟩:=I.list hq2
  have l1:=rv.length
  have l2:=rv2.length
  refine wpAny_pyNext_zip_end (I.ok.hd hc) D hz hTI hTO h1 h2 p.isList p2.isList (he.imp (fun e=>Array.getElem?_eq_none (by simp;omega)) fun e=>Array.getElem?_eq_none (by simp;omega)) fun h' hk=>⟨rfl,I.turnedL (t':=s.toks) (fp:=[z,TI,TO,i1,i2]) (fun c o hc e=>?_) hf⟩
  simp only [List.mem_cons,List.not_mem_nil,or_false,not_or] at hc
  exact hk c o hc.1 hc.2.2.1 hc.2.2.2.1 hc.2.2.2.2 e
 self:=fun _ _ _ _ _ st h=>wpAny_pyIter_zip st.1 h
theorem qdd:bootBuiltins "zip"=some (.type "zip"):=by decide +kernel
def qg9 (K:yg) (ta:TA):TI:=fun σ H R=>ta σ H fun vs H1=>∃ a b xs ys,vs=[.ref a,.ref b]∧SqL K H1 a xs∧SqL K H1 b ys∧R (Itz K a b) H1
theorem vZip {K:yg} {tas:TA} {σ:St} {H:Hp} {R:It→Hp→Prop} (h:tas σ H fun vs H1=>∃ a b xs ys,vs=[.ref a,.ref b]∧SqL K H1 a xs∧SqL K H1 b ys∧R (Itz K a b) H1):qg9 K tas σ H R:=h
theorem pi_zip {X:Cx} {K:yg} {a b:Expr} {ta:TA} {es:List Expr} {x1} {tp p pos:Pos} (hK:X.K=K) (hg:Gl X "zip") (hm:X.mg "zip"=none) (ha:PA X [a,b] ta) (hs:starEach [a,b] X.env=[(false,eval a X.env),(false,eval b X.env)]:=by rfl) (hs2:starEach [b] X.env=[(false,eval b X.env)]:=by rfl):PI X (.Tuple es x1 tp) (.Call (.Name "zip" p) [a,b] [] pos) (qg9 K ta):=by
 subst hK
 intro pins s σ H R I h
 refine Call_ (qaC I hg hm qdd (PyProof.Rows.callWith_type1 (thn (ha pos pins s σ H _ I h) fun us s1 ⟨vs,H1,I1,r1,q1⟩=>?_) (by rw [hs,hs2]) (by rw [hs2];rfl)))
 obtain ⟨a,b,xs,ys,e,hq,hq2,q⟩:=q1
 subst e
 cases r1 with
 | cons r rr =>
  cases rr with
  | cons r2 rr =>
   cases rr
   cases r
   cases r2
   obtain ⟨its,rv,pl,_⟩:=I1.list hq
   obtain ⟨its2,rv2,pl2,_⟩:=I1.list hq2
   have lta:a < s1.heap.objs.size:=by obtain ⟨_,e,_⟩:=pl.isList;exact Heap.lt_size e
   have ltb:b < s1.heap.objs.size:=by obtain ⟨_,e,_⟩:=pl2.isList;exact Heap.lt_size e
   refine call_zip_2 pl.isList pl2.isList fun h' hz hTI hTO hi1 hi2 hsz hk=>wpAny_pyIter_zip hz ?_
   refine ⟨_,[s1.heap.objs.size + 4,s1.heap.objs.size + 2,s1.heap.objs.size + 3,s1.heap.objs.size,s1.heap.objs.size + 1],_,_,H1,rfl,I1.kept (t':=s1.toks) hk,turn_zip a b _ _ _ _ _ (PySem.W.ktu_apart _ _ _ lta ltb),⟨hz,hTI,⟨_,_,hTO⟩,hi1,hi2⟩,fun c hc=>?_,q⟩
   simp only [List.mem_cons,List.not_mem_nil,or_false] at hc
   rcases hc with rfl | rfl | rfl | rfl | rfl
   ·exact I1.fpOk (Nat.le_add_right _ _) (I1.hok.fresh (Nat.le_add_right _ _))
   ·exact I1.fpOk (Nat.le_add_right _ _) (I1.hok.fresh (Nat.le_add_right _ _))
   ·exact I1.fpOk (Nat.le_add_right _ _) (I1.hok.fresh (Nat.le_add_right _ _))
   ·exact I1.fpOk (yh _) (I1.hok.fresh (yh _))
   ·exact I1.fpOk (Nat.le_succ _) (I1.hok.fresh (Nat.le_succ _))
def qha (K:yg) (te:TE) (ts:TO):TE:=fun σ H Q=>te σ H fun x H1=>ts σ H1 fun o H2=>o=some (-1)∧∃ a xs,x=.ref a∧SqL K H2 a xs∧∀ p,H2 p=none→Q (.ref p) (upd H2 p (.lst xs.reverse))
theorem qgH {K:yg} {te:TE} {ts:TO} {σ:St} {H:Hp} {Q:VK} (h:te σ H fun x H1=>ts σ H1 fun o H2=>o=some (-1)∧∃ a xs,x=.ref a∧SqL K H2 a xs∧∀ p,H2 p=none→Q (.ref p) (upd H2 p (.lst xs.reverse))):qha K te ts σ H Q:=h
theorem qde:∀ {xs:List V} {us:List Value},Vals xs us→Vals xs.reverse us.reverse
 | _,_,.nil=>.nil
 | _,_,.cons r t=>by
  rw [List.reverse_cons,List.reverse_cons]
  exact (qde t).append (.cons r .nil)
section
variable {X:Cx} {K:yg} {e st:Expr} {te:TE} {ts:TO} {p2 pos:Pos}
theorem qd6 (hK:X.K=K) (he:PE X e te) (hs:PO X (some st) ts):PE X (.Subscript e (.Slice none none (some st) p2) pos) (qha K te ts):=by
 subst hK
 intro pins s σ H Q I h
 refine Subscript_ (thn (he pins s σ H _ I h) fun v s1 ⟨x,H1,I1,r1,q1⟩=>?_)
 refine wpAny_Slice ?_
 rw [evalPart_none]
 refine wpAny_pure ?_
 refine wpAny_pure ?_
 refine thn (hs pins s1 σ H1 _ I1 q1) fun vt s2 ⟨o,H2,I2,pt,eo,a,xs,ex,hx,q⟩=>?_
 subst eo ex
 cases r1
 have I4:Inv X pins σ H2 { s2 with heap:=s2.heap.push { cls:=.type "slice",data:=.fields #[.none,.none,vt] } }:=I2.kept (t':=s2.toks) fun b ob q=>Heap.get?_push_of_some _ q
 obtain ⟨its,r,ht,hz⟩:=I4.list hx
 have hlen:=r.length
 show wpAny (model X.prog X.w) X.A (subscriptTail e (.Slice none none (some st) p2) (.ref a) (.ref s2.heap.objs.size)) (EP X pins σ Q) X.xe { s2 with heap:=s2.heap.push { cls:=.type "slice",data:=.fields #[.none,.none,vt] } }
 refine tail_any (ops:=[.ref a,.ref s2.heap.objs.size]) ht.isList.typeIs slot_list_getitem.lookup (wpAny_getItem_list_slice ht.isList (Heap.IsSliceOf.new ..) .none .none pt (by decide) ?_ (by rw [List.size_toArray]<;>omega)) (by with_unfolding_all rfl)
 rw [PySem.W.krv_pick]
 refine ⟨.ref _,_,I4.laid (t':=s2.toks) (o:=.lst xs.reverse) (fun b ob q=>Heap.get?_push_of_some _ q) (yh _) ?_,rfl,q _ (I4.hok.fresh (yh _))⟩
 exact ⟨by rw [List.length_reverse];exact hz,_,0,qde r,Heap.get?_push_size _ rfl⟩
end
section
variable {X:Cx} {a:Expr} {ta:TA} {p p2 pos pos2:Pos}
end
end L2
namespace L2
structure Sb (V:Nat→Prop):Prop where
 z:V 0
 a:∀ x y,V x→V y→V (x ^^^ y)
def jn (V:Nat→Prop) (x:Nat):Nat→Prop:=fun y=>V y∨V (y ^^^ x)
def Spn:List Nat→Nat→Prop
 | []=>fun y=>y=0
 | a::L=>jn (Spn L) a
open Classical in
def Bnd (b n v:Nat):Prop:=∀ i,v.testBit i=true→b≤i∧i < b + n
open Classical in
def swp:Nat→Nat→List Nat→Nat
 | 0,_,_=>0
 | n + 1,b,L=>match L.filter (fun v=>v.testBit b) with
  | []=>swp n (b + 1) L
  | p::t=>1 + swp n (b + 1) (L.filter (fun v=>!v.testBit b)++t.map fun v=>v ^^^ p)
open Classical in
def rk (L:List Nat):Nat:=swp 30 0 L
open Classical in
def les:Nat×Nat→List (Nat×Nat)→Nat×Nat
 | s,[]=>s
 | s,o::os=>if s.1 ^^^ o.1 < s.1 then les (s.1 ^^^ o.1,s.2 ^^^ o.2) os else les s os
structure Ech (os:List (Nat×Nat)):Prop where
 nz:∀ o∈os,o.1≠0
 pw:os.Pairwise fun a b=>b.1.testBit a.1.log2=false
def csm:List Nat→Nat→Nat→Nat
 | [],_,_=>0
 | a::L,k,c=>(if c.testBit k then a else 0) ^^^ csm L (k + 1) c
def stp (st:List (Nat×Nat)) (n v:Nat):List (Nat×Nat):=if (les (v,1 <<< n) st).1=0 then st else st++[les (v,1 <<< n) st]
structure Stp (L:List Nat) (n:Nat) (st:List (Nat×Nat)):Prop where
 ech:Ech st
 sum:∀ o∈st,csm L 0 o.2=o.1
 low:∀ o∈st,o.2 < 2 ^ n
 lt:∀ o∈st,o.1 < 2 ^ 30
 spn:∀ v,Spn (st.map (·.1)) v↔Spn (L.take n) v
 free:st.map (fun o=>o.2.log2)=(List.range n).filter fun i=>decide (rk (L.take i) < rk (L.take (i + 1)))
 len:st.length≤n
end L2
namespace L2
open PySem PySem.Spec PyProof.Rows
section
variable {X:Cx}
end
def Fl:V→Prop
 | .non=>True
 | .bl _=>True
 | .int i=>-999999999999≤i∧i≤999999999999
 | _=>False
def fD:V→PyData
 | .non=>.none
 | .bl b=>.bool b
 | .int i=>.int i
 | .str x=>.str x
 | _=>.none
def FlS (xs:List V):Prop:=xs.length≤1000∧∀ x∈xs,Fl x
def ShwT (H:Hp) (v:V) (t:Str):Prop:=match v with
 | .non=>t="None"
 | .bl b=>t=if b then Str.ofString "True" else Str.ofString "False"
 | .int i=>i.natAbs.log2 < 1920∧t=toString i
 | .str x=>(reprText x).length≤sizeLine∧t=reprText x
 | .ref p=>(∃ xs,H p=some (.lst xs)∧FlS xs∧t=(PyData.list (xs.map fD)).shown)∨∃ xs,H p=some (.tup xs)∧FlS xs∧t=(PyData.tuple (xs.map fD)).shown
 | _=>False
section
variable {X:Cx} {K:yg}
end
theorem gk_two {nl i j n:Nat} {K:yg} (hi:i < nl:=by decide) (hj:j < nl:=by decide):qdW nl (qgk K n (qfn (qbv i) (qfn (qbv j) qgT))):=by
 intro x σ H Q ⟨a,xs,e,hs,hn,v,r,e1,v2,r2,e2,q⟩
 obtain ⟨e3,q⟩:=q
 refine ⟨a,xs,e,hs,hn,v,r,e1,v2,r2,e2,e3,q,?_,fun k hk=>?_⟩
 ·rw [List.length_set,List.length_set]
 ·rw [List.getElem?_set_ne (by omega),List.getElem?_set_ne (by omega)]
section
variable {K:yg} {a:Addr} {xs:List V} {g:TG} {tc:TT} {te:TE} {σ':St} {H1:Hp} {Q:V→Hp→Prop}
end
section
variable {K:yg} {a b:Addr} {xs ys:List V} {g:TG} {tc:TT} {te:TE} {σ':St} {H1:Hp} {Q:V→Hp→Prop}
theorem comp_zip (el:ys.length≤xs.length) (Pv:Nat→List V→Hp→Prop) (h0:Pv 0 [] H1) (hl:∀ i zs H,i≤ys.length→Pv i zs H→SqL K H a xs∧SqL K H b ys)
  (hs:∀ i x y t zs H,xs[i]?=some x→ys[i]?=some y→H t=none→Pv i zs H→g (.ref t) σ' (upd H t (.tup [x,y])) fun σ2 H2=>tc σ2 H2 fun b H3=>if b=true then te σ2 H3 fun v H4=>zs.length < sizeLine∧Pv (i + 1) (zs++[v]) H4 else Pv (i + 1) zs H3)
  (hd:∀ zs H,Pv ys.length zs H→zs.length≤sizeLine∧∀ p,H p=none→Q (.ref p) (upd H p (.lst zs))):qdH (Itz K a b) g tc te σ' H1 Q:=by
 refine ⟨fun i m zs H=>m=ys.length - i∧i≤ys.length∧Pv i zs H,⟨ys.length,by simp,Nat.zero_le _,h0⟩,?_⟩
 rintro i m zs H ⟨rfl,hi,p⟩
 obtain ⟨q,q2⟩:=hl i zs H hi p
 by_cases hlt2:i < ys.length
 ·have hlt:i < xs.length:=by omega
  refine .inr ⟨⟨xs,ys,xs[i],ys[i],q,q2,by simp [hlt],by simp [hlt2]⟩,Pv (i + 1),fun ys' H' p'=>⟨ys.length - (i + 1),by omega,rfl,hlt2,p'⟩,fun x H' y=>?_⟩
  obtain ⟨t,v,u,rfl,ht,rfl,y,y2⟩:=y
  exact hs i v u t zs _ (y xs q) (y2 ys q2) ht p
 ·have e:i=ys.length:=by omega
  subst e
  exact .inl ⟨⟨xs,ys,q,q2,.inr (yh _)⟩,hd zs H p⟩
end
section
variable {X:Cx} {K:yg}
end
section
variable {X:Cx} {K:yg} {e st:Expr} {te:TE} {ts:TO} {p2 pos:Pos}
end
mutual
inductive Dat (H:Hp):V→PyData→Prop
 | non:Dat H .non .none
 | bl (b:Bool):Dat H (.bl b) (.bool b)
 | int (i:Int):Dat H (.int i) (.int i)
 | str (x:Str):Dat H (.str x) (.str x)
 | lst {a:Addr} {xs:List V} {ds:List PyData}:H a=some (.lst xs)→DatS H xs ds→Dat H (.ref a) (.list ds)
 | tup {a:Addr} {xs:List V} {ds:List PyData}:H a=some (.tup xs)→DatS H xs ds→Dat H (.ref a) (.tuple ds)
 | dnil {a:Addr}:H a=some (.dK [])→Dat H (.ref a) (.dict [])
inductive DatS (H:Hp):List V→List PyData→Prop
 | nil:DatS H [] []
 | cons {v:V} {vs:List V} {d:PyData} {ds:List PyData}:Dat H v d→DatS H vs ds→DatS H (v::vs) (d::ds)
end
theorem Dat.same {H H':Hp} (s:Same H H') {v:V} {d:PyData} (h:Dat H v d):Dat H' v d:=
 Dat.rec (H:=H) (motive_1:=fun v d _=>Dat H' v d) (motive_2:=fun vs ds _=>DatS H' vs ds) .non .bl .int .str (fun e _ r=>.lst (s _ _ e) r) (fun e _ r=>.tup (s _ _ e) r) (fun e=>.dnil (s _ _ e)) .nil (fun _ _ a b=>.cons a b) h
theorem DatS.app {H:Hp}:∀ {xs ys:List V} {ds es:List PyData},DatS H xs ds→DatS H ys es→DatS H (xs++ys) (ds++es)
 | _,_,_,_,.nil,h=>h
 | _,_,_,_,.cons a b,h=>.cons a (b.app h)
structure Shw (d:PyData) (n m:Nat):Prop where
 s:d.showable=true
 l:d.leavesShort 13=true
 b:d.bulk≤n
 p:d.depth≤m
structure ShwS (ds:List PyData) (n m:Nat):Prop where
 s:PyData.showableAll ds=true
 l:PyData.leavesShortAll 13 ds=true
 b:PyData.bulkAll ds≤n
 p:PyData.depthAll ds≤m
theorem ShwS.nil {m:Nat}:ShwS [] 0 m:=⟨rfl,rfl,yh _,Nat.zero_le _⟩
theorem ShwS.cons {d:PyData} {ds:List PyData} {n n' m:Nat} (h:Shw d n m) (r:ShwS ds n' m):ShwS (d::ds) (n + 1 + n') m:=
  ⟨by show (PyData.showable d&&PyData.showableAll ds)=true;rw [h.s,r.s];rfl,by show (PyData.leavesShort 13 d&&PyData.leavesShortAll 13 ds)=true;rw [h.l,r.l];rfl,
   by have:=h.b;have:=r.b;show PyData.bulk d + 1 + PyData.bulkAll ds≤_;omega,
   by have:=h.p;have:=r.p;simp only [PyData.depthAll];omega⟩
theorem ShwS.mono {ds:List PyData} {n n' m m':Nat} (h:ShwS ds n m) (hn:n≤n') (hm:m≤m'):ShwS ds n' m':=⟨h.s,h.l,yi h.b hn,yi h.p hm⟩
theorem Shw.mono {d:PyData} {n n' m m':Nat} (h:Shw d n m) (hn:n≤n') (hm:m≤m'):Shw d n' m':=⟨h.s,h.l,yi h.b hn,yi h.p hm⟩
theorem ShwS.list {ds:List PyData} {n m:Nat} (h:ShwS ds n m):Shw (.list ds) n (m + 1):=
 ⟨by simpa only [PyData.showable] using h.s,by simpa only [PyData.leavesShort] using h.l,by simpa only [PyData.bulk] using h.b,by have:=h.p;simp only [PyData.depth];omega⟩
theorem ShwS.tuple {ds:List PyData} {n m:Nat} (h:ShwS ds n m):Shw (.tuple ds) n (m + 1):=
 ⟨by simpa only [PyData.showable] using h.s,by simpa only [PyData.leavesShort] using h.l,by simpa only [PyData.bulk] using h.b,by have:=h.p;simp only [PyData.depth];omega⟩
theorem ShwS.app {m:Nat}:∀ {ds es:List PyData} {n n':Nat},ShwS ds n m→ShwS es n' m→ShwS (ds++es) (n + n') m
 | [],es,n,n',_,h=>h.mono (by omega) (yh _)
 | d::ds,es,n,n',h,h'=>by
  have hs:PyData.showable d=true∧PyData.showableAll ds=true:=by simpa [PyData.showableAll] using h.s
  have hl:PyData.leavesShort 13 d=true∧PyData.leavesShortAll 13 ds=true:=by simpa [PyData.leavesShortAll] using h.l
  have hb:PyData.bulk d + 1 + PyData.bulkAll ds≤n:=h.b
  have hp:=h.p
  simp only [PyData.depthAll] at hp
  have a:Shw d (PyData.bulk d) m:=⟨hs.1,hl.1,yh _,by omega⟩
  have b:ShwS ds (PyData.bulkAll ds) m:=⟨hs.2,hl.2,yh _,by omega⟩
  exact (ShwS.cons a (b.app h')).mono (by omega) (yh _)
theorem Shw.non {m:Nat}:Shw .none 0 m:=⟨rfl,rfl,yh _,Nat.zero_le _⟩
theorem Shw.bl {b:Bool} {m:Nat}:Shw (.bool b) 0 m:=⟨rfl,rfl,yh _,Nat.zero_le _⟩
theorem Shw.int {i:Int} {m:Nat} (h1:-999999999999≤i) (h2:i≤999999999999):Shw (.int i) 0 m:=
 ⟨decide_eq_true (log2_small (yj (show i.natAbs < 2 ^ 40 by omega) (Nat.pow_le_pow_right (by decide) (by decide)))),decide_eq_true (PyData.shown_int_le2 h1 h2),yh _,Nat.zero_le _⟩
theorem Shw.str {x:Str} {m:Nat} (h:∀ c∈x.cps.toList,c < 16 ^ 8):Shw (.str x) x.length m:=
 ⟨rfl,by simpa only [PyData.leavesShort,List.all_eq_true,decide_eq_true_eq] using h,yh _,Nat.zero_le _⟩
section
variable {X:Cx} {K:yg} {pins:List (Addr×Obj)} {σ:List (Option V)} {H:Hp} {s:Shared}
theorem Dat.reads (I:Inv X pins σ H s) (hm:H sysModules=none) {v:V} {d:PyData} (h:Dat H v d):∀ u,RelV v u→∃ as,Reads s.heap u d as∧sysModules∉as:=
 Dat.rec (H:=H) (motive_1:=fun v d _=>∀ u,RelV v u→∃ as,Reads s.heap u d as∧sysModules∉as) (motive_2:=fun vs ds _=>∀ us,Vals vs us→∃ as,ReadsAll s.heap us ds as∧sysModules∉as)
  (fun u r=>⟨[],by cases r;exact .none,nofun⟩) (fun b u r=>⟨[],by cases r;exact .bool b,nofun⟩) (fun i u r=>⟨[],by obtain ⟨t,rfl⟩:=r;exact .int i t,nofun⟩) (fun x u r=>⟨[],by obtain ⟨t,rfl⟩:=r;exact .str x t,nofun⟩)
  (fun {a xs ds} e _ ih u r=>by
   cases r
   obtain ⟨z,its,n,rv,e2⟩:=I.hok a _ e
   obtain ⟨as,ra,hn⟩:=ih its rv
   refine ⟨a::as,.list e2 rfl rfl (by rw [List.toList_toArray];exact ra),fun hh=>?_⟩
   rcases List.mem_cons.mp hh with z | z
   ·rw [z,e] at hm;cases hm
   ·exact hn z)
  (fun {a xs ds} e _ ih u r=>by
   cases r
   obtain ⟨its,rv,⟨o,e1,e2,n,e3⟩,_⟩:=I.tuple (SqT.of e)
   obtain ⟨as,ra,hn⟩:=ih its rv
   exact ⟨as,.tuple e1 e2 e3 (by rw [List.toList_toArray];exact ra),hn⟩)
  (fun {a} e u r=>by
   cases r
   obtain ⟨z,hd,vs,rel,o,es,ep,e1,e2,e3,e4,e5,e6⟩:=qfU I.hok e
   cases rel
   have he:es.toList=[]:=by cases hes:es.toList with | nil=>rfl | cons y ys=>rw [hes] at e5;cases e5
   refine ⟨a::[]++[],.dict e1 e2.1 e3 (by rw [he];exact .nil) (by rw [he];exact .nil),fun hh=>?_⟩
   rcases List.mem_cons.mp hh with z | z
   ·rw [← z] at hd;simp at hd
   ·cases z)
  (fun us r=>by cases r;exact ⟨[],.nil,nofun⟩)
  (fun _ _ ih1 ih2 us r=>by
   cases r with
   | cons r rr =>
    obtain ⟨as,ra,na⟩:=ih1 _ r
    obtain ⟨bs,rb,nb⟩:=ih2 _ rr
    exact ⟨as++bs,.cons ra rb,fun hh=>(List.mem_append.mp hh).elim na nb⟩) h
def rReprD:List V→Hp→VK→Prop:=fun xs H Q=>∃ v d,xs=[v]∧Dat H v d∧Shw d (2 ^ 20) 60∧Q (.str d.shown) H
theorem qbS (hK:X.K=K) (hu:X.A.units + 100 < cLine) (hg:X.A.guards=some []) (hs:∃ o,K.lookup sysModules=some o):zY X (.builtin "repr") rReprD:=by
 subst hK
 intro pins s σ H xs us Q I r h
 obtain ⟨v,d,rfl,hd,hw,q⟩:=h
 obtain ⟨u,rfl,ru⟩:=qbf r
 obtain ⟨o,ho⟩:=hs
 have hm:H sysModules=none:=(I.bs _ _ (I.mod.kin _ _ ho)).2
 have hsz:d.shown.length≤sizeLine:=PyData.shown_fits_bulk (B:=13) (by decide) (by decide) hw.l hw.b
 obtain ⟨as,ra,na⟩:=hd.reads I hm u ru
 have hp:=hw.p
 cases hd with
 | non=>cases ru;exact P.repr_of_none ⟨.str _,H,I.tok _,⟨_,rfl⟩,q⟩
 | bl b=>cases ru;exact P.repr_of_bool ⟨.str _,H,I.tok _,⟨_,rfl⟩,q⟩
 | int i=>obtain ⟨tk,rfl⟩:=ru;exact P.repr_of_int (yk (by simpa only [PyData.showable] using hw.s)) ⟨.str _,H,I.tok _,⟨_,rfl⟩,q⟩
 | str x=>obtain ⟨tk,rfl⟩:=ru;exact P.repr_of_str (hsz:=hsz) ⟨.str _,H,I.tok _,⟨_,rfl⟩,q⟩
 | lst e _=>cases ru;exact repr_of_reads' ra hw.s (fun _=>na) hg (by omega) (fun _ _ z=>z) (fun h' u tk hk=>⟨.str _,H,I.kept (t':=tk) hk,⟨_,rfl⟩,q⟩) hsz
 | tup e _=>cases ru;exact repr_of_reads' ra hw.s (fun _=>na) hg (by omega) (fun _ _ z=>z) (fun h' u tk hk=>⟨.str _,H,I.kept (t':=tk) hk,⟨_,rfl⟩,q⟩) hsz
 | dnil e=>cases ru;exact repr_of_reads' ra hw.s (fun _=>na) hg (by omega) (fun _ _ z=>z) (fun h' u tk hk=>⟨.str _,H,I.kept (t':=tk) hk,⟨_,rfl⟩,q⟩) hsz
end
section
variable {X:Cx} {tg elt iter:Expr} {ifs:List Expr} {scope sc1:Scope} {pos:Pos} {N N1:List Str} {nl:Nat} {ixs:List Nat} {wi:TI} {g:TG} {tc:TT} {te:TE} {C1:Addr} {s1:Shared} {H1:Hp} {ex1:List Addr}
end
section
variable {X:Cx} {K:yg}
theorem qa2 {td ty:TE} {σ:St} {H:Hp} {Q:VK} (h:td σ H fun x H1=>∃ a,x=.ref a∧IsD H1 a∧ty σ H1 fun y H2=>∃ o,DGet H2 a y o∧Q (o.getD .non) H2):qeS td ty σ H Q:=h
end
abbrev Cx.soft (X:Cx):Cx:={ X with calm:=false }
structure RoomW (k:Nat) (A:Around):Prop where
 dp:A.depth + 3 * k + 5 < recursionLimit
 un:A.units + 16 * k + 200 < cLine
 gd:A.guards=some []
theorem RoomW.deeper {k:Nat} {A:Around} (r:RoomW (k + 1) A) (env:Env):RoomW k (A.deeper env):=
 ⟨by have:=r.dp;show A.depth + 1 + 3 * k + 5 < _;omega,by have:=r.un;show A.units + 3 + 16 * k + 200 < _;omega,r.gd⟩
theorem Room.soft {j k:Nat} {A:Around} {h:Option Value} (r:Room k A) (l:j≤k):RoomW j (A.mark h):=⟨by have:=r.dp;show A.depth + 3 * j + 5 < _;omega,by have:=r.un;show A.units + 16 * j + 200 < _;omega,r.gd⟩
structure FnOkW (P:Program) (w:World) (K:yg) (mg:Str→Option Value) (base:Heap) (k:Nat) (f:Addr) (fd:FuncData) (ps:List Str) (sp:Sp):Prop where
 len:∀ vs H Q E,sp vs H Q E→vs.length=ps.length
 run:∀ (A:Around) (outer:List Env) (s:Shared) (H:Hp) (args:Args) (us:List Value) (vs:List V) (Q:VK) (E:XK),RoomW k A→Env0 P w K mg base A outer s H→BindsTo s fd args (ps.zip us)→Vals vs us→sp vs H Q E →
  codeAny (model P w) A (.call (.ref f) args) (CR CX0 outer P w H s Q E) s
structure DefOkW (P:Program) (w:World) (K:yg) (mg:Str→Option Value) (base:Heap) (k:Nat) (x:Str) (ps:List Str) (sp:Sp):Prop where
 ex:∃ f fd,FnOkW P w K mg base k f fd ps sp∧mg x=some (.ref f)∧PySem.W.keepIn K (.ref f)=true∧Binds K fd ps []
section
variable {X:Cx} {k:Nat} {f C:Addr} {fd:FuncData} {ps:List Str} {sp:Sp} {x m:Str} {p pos apos:Pos} {e o:Expr} {es:List Expr} {ta:TE} {t:TA}
theorem run_fnW {pins:List (Addr×Obj)} {σ:St} {H:Hp} {s:Shared} {Q:VK} {us:List Value} {vs:List V} (F:FnOkW X.prog X.w X.K X.mg X.base k f fd ps sp) (hr:RoomW k X.A) (hb:Binds X.K fd ps [])
  (I:Inv X pins σ H s) (r:Vals vs us) (h:sp (vs++[]) H Q E0):wpAny (model X.prog X.w) X.A (call (.ref f) us) (EP X pins σ Q) X.xe s:=by
 have r2:Vals (vs++[]) (us++[]):=r.append .nil
 have hl:(us++([]:List Value)).length=ps.length:=by rw [← r2.length];exact F.len _ _ _ _ h
 refine wpAny_call (codeAny_mono (F.run X.A X.stack s H ⟨us,[]⟩ (us++[]) (vs++[]) Q E0 hr I.env0 (hb s us I.kIn hl) r2 h) fun r s' hq=>?_)
 cases r with
 | error e=>exact False.elim hq
 | ok fl =>
  cases fl with
  | ret u=>exact I.after hq
  | _=>exact False.elim hq
theorem pe_defW (D:DefOkW X.prog X.w X.K X.mg X.base k x ps sp) (hr:RoomW k X.A) (ha:PA X (e::es) t) (hg:Gl X x:=by rfl) (hdb:(x==("__debug__":Str))=false:=by decide)
  (he:starEach (e::es) X.env=(false,eval e X.env)::starEach es X.env:=by rfl) (hpl:(backTo pos (starEach es X.env)).any (·.1)=false:=by rfl):PE X (.Call (.Name x p) (e::es) [] pos) (qcE sp [] E0 t):=by
 obtain ⟨f,fd,F,hm,hk,hb⟩:=D.ex
 intro pins s σ H Q I h
 refine wpAny_Call_Name_kw (qaa I hg hm ?_ hdb)
 refine PySem.W.callWith_K (h₀:=X.base) I.ok.mod.kin hk (thn (ha pos pins s σ H _ I h) fun us s1 ⟨vs,H1,I1,r,q⟩=>⟨I1.kIn,?_⟩) he hpl
 exact run_fnW F hr hb I1 r q
end
section
variable {P:Program} {w:World} {K:yg} {mg:Str→Option Value} {base:Heap}
theorem inv_startW {N ps:List Str} {qual:Str} {scope:Scope} {f:Addr} {cd:Value} {A:Around} {outer:List Env} {s s1:Shared} {H:Hp} {E:XK} {us:List Value} {vs:List V}
  (S:FnScope N ps scope) (e0:Env0 P w K mg base A outer s H) (hl:vs.length=ps.length) (r:Vals vs us)
  (x:InCallC s s.heap.objs.size (bindL (envOfC qual scope s.heap.objs.size f cd).kindOf (ps.zip us) fun _=>none) (cellsFrom (s.heap.objs.size + 1) scope.names []) (bindC (envOfC qual scope s.heap.objs.size f cd).kindOf (ps.zip us) fun _=>none) s1) :
  Inv (qdF CX0 P w K mg base N qual scope f cd A outer s H E).nox.soft [] (start N vs) H s1:=by
 have I0:=qcc (CX:=CX0) (N:=N) (ps:=ps) (f:=f) (A:={ A with handled:=none }) (E:=E) S rfl (⟨e0.frames,e0.mod,e0.bs,e0.bsz,e0.funs,e0.frf,e0.hok,e0.bare⟩:Env0 P w K mg base { A with handled:=none } outer s H) hl r x
 exact ⟨⟨I0.ok.mod,I0.ok.kind,I0.ok.glob,I0.ok.blt,I0.ok.above,I0.ok.inj,I0.ok.has,I0.ok.cab,(fun h=>nomatch h),Around.frames_deeper e0.frames,I0.ok.stk,I0.ok.exf,I0.ok.bs,I0.ok.bsz,I0.ok.noex,I0.ok.exfs,I0.ok.funs,I0.ok.frf⟩,I0.os,I0.bare,I0.base,I0.loc,I0.cell,I0.free,I0.freeC,I0.pin,I0.hok,I0.len⟩
theorem fn_ofW {P:Program} {w:World} {K:yg} {mg:Str→Option Value} {base:Heap} {k:Nat} {f:Addr} {name qual:Str} {params:Arguments} {body:List Stmt} {scope:Scope} {dV kV doc pm cdv ct oc:Value} {an od:Option Addr}
  {osl:Array (Option Value)} {N ps:List Str} {sp:Sp} (lk:K.lookup f=some ⟨oc,od,.func (PySem.W.fnOf name qual params body scope dV kV doc pm an cdv ct),osl⟩) (hcd:PySem.W.codeIn K cdv qual=true) (S:FnScope N ps scope)
  (len:∀ vs H Q E,sp vs H Q E→vs.length=ps.length)
  (hbody:∀ (A:Around) (outer:List Env) (s:Shared) (H:Hp) (vs:List V) (Q:VK) (E:XK),RoomW k (A.deeper (envOfC qual scope s.heap.objs.size f cdv))→sp vs H Q E →
   ∃ t,PSs (qdF CX0 P w K mg base N qual scope f cdv A outer s H E).nox.soft body t∧t { nx:=fun _ H'=>Q .non H',rt:=Q } (start N vs) H) :
  FnOkW P w K mg base (k + 1) f (PySem.W.fnOf name qual params body scope dV kV doc pm an cdv ct) ps sp:=by
 refine ⟨len,fun A outer s H args us vs Q E hr e0 hb r hsp=>?_⟩
 have hl:=len _ _ _ _ hsp
 have KX:K.In s.heap:=e0.mod.kin.keeps fun b o e=>(e0.bs b o e).1
 have lim:s.heap.NoLimit:=e0.mod.nolimit.keeps fun b o e=>(e0.bs b o e).1
 have hkind:∀ y∈ps.zip us,scope.names.lookup y.1=some .local∨(scope.names.lookup y.1=some .cell∧((cellsFrom (s.heap.objs.size + 1) scope.names []).lookup y.1).isSome=true):=fun ⟨n,v⟩ hy=>by
  rcases S.par n (List.of_mem_zip hy).1 with q | q
  ·exact .inl q
  ·exact .inr ⟨q,PySem.W.cellsFrom_some _ _ _ (.inl q)⟩
 refine codeAny_call_function (show A.depth < recursionLimit by have:=hr.dp;omega) (KX _ _ lk) rfl S.co S.gen rfl (PySem.W.codeRec_of KX hcd) (hb _ _ _ _ ?_)
 refine wpAny_newFunctionEnv_cells S.kind hkind fun env he s1 x=>?_
 subst he
 refine ⟨lim.keeps x.toInCall.keep,codeAny_func ?_⟩
 obtain ⟨t,ht,hq⟩:=hbody A outer s H vs Q E (hr.deeper _) hsp
 have I:Inv (qdF CX0 P w K mg base N qual scope f cdv A outer s H E).nox.soft [] (start N vs) H s1:=inv_startW S e0 hl r x
 refine wpAny_mono (ht [] s1 (start N vs) H _ I hq) (fun fl s' hs=>?_) fun e s' hs=>hs.elim
 have fin:∀ {σ':St} {H':Hp} {v:V} {u:Value},Inv (qdF CX0 P w K mg base N qual scope f cdv A outer s H E).nox.soft [] σ' H' s'→RelV v u→Q v H'→CE outer P w H s Q u s':=
  fun {σ' H' v u} J rv q=>⟨v,H',J.os,J.bare,J.base,J.hok,rv,q⟩
 cases fl with
 | ret u =>
  obtain ⟨v,σ',H',J,rv,q⟩:=hs
  exact fin J rv q
 | next =>
  obtain ⟨σ',H',J,q⟩:=hs
  exact fin (v:=V.non) (u:=Value.none) J rfl q
 | brk =>
  obtain ⟨_,_,_,q⟩:=hs
  exact False.elim q
 | cont =>
  obtain ⟨_,_,_,q⟩:=hs
  exact False.elim q
theorem Fun.okW {x qual:Str} {st:Stmt} {f:Addr} {fd:FuncData} {N ps:List Str} {k:Nat} {sp:Sp} (F:Fun K x qual st f fd) (S:FnScope N ps (qe st)) (len:∀ vs H Q E,sp vs H Q E→vs.length=ps.length)
  (hbody:∀ (cdv:Value) (A:Around) (outer:List Env) (s:Shared) (H:Hp) (vs:List V) (Q:VK) (E:XK),RoomW k (A.deeper (envOfC qual (qe st) s.heap.objs.size f cdv))→sp vs H Q E →
   ∃ t,PSs (qdF CX0 P w K mg base N qual (qe st) f cdv A outer s H E).nox.soft (qj st) t∧t { nx:=fun _ H'=>Q .non H',rt:=Q } (start N vs) H):FnOkW P w K mg base (k + 1) f fd ps sp:=by
 obtain ⟨oc,od,kV,doc,pm,an,cdv,ct,osl,rfl,lk,hcd⟩:=F.ex
 exact fn_ofW lk hcd S len fun A outer s H vs Q E hr hsp=>hbody cdv A outer s H vs Q E hr hsp
end
theorem Inv.laidM {X:Cx} {pins:List (Addr×Obj)} {σ:St} {H H':Hp} {s:Shared} {h':Heap} {t':Nat} (I:Inv X pins σ H s) (k:∀ b u,s.heap.get? b=some u→h'.get? b=some u)
  (old:∀ b,b < s.heap.objs.size→H' b=H b) (new:∀ b u,s.heap.objs.size≤b→H' b=some u→ObjOk X.prog X.w H' h' b u):Inv X pins σ H' { s with heap:=h',toks:=t' }:=by
 have lt:∀ b u,H b=some u→b < s.heap.objs.size:=fun b u e=>Nat.lt_of_not_le fun z=>by rw [I.hok.fresh z] at e;cases e
 have up:∀ b u,H b=some u→H' b=some u:=fun b u e=>(old b (lt b u e)).trans e
 refine I.step (g':=s.gens) (d':=s.drawn) (ch:=[]) (fun b hb=>by simp at hb) (fun b o _ _ _ e _=>k b o e) (fun b o _ _ _ e _=>⟨o.slots,k b o e⟩) (fun b o _ e n=>(old b (Heap.lt_size e)).trans n)
  (fun b o _ e=>⟨o,k b o e⟩) (fun b xs e=>up b _ e) (fun b _ _ e=>up b _ e) (fun b ps e=>⟨#[],by rw [up b _ e];simp⟩) (fun m ⟨o,es,ep,ho,r⟩=>⟨o,es,ep,k _ o ho,r⟩) (fun b u e=>?_) I.bare
 by_cases hb:s.heap.objs.size≤b
 ·exact new b u hb e
 ·rw [old b (Nat.lt_of_not_le hb)] at e
  exact (I.hok b u e).stay (fun c v _ q=>k c v q) (fun c q=>up c _ q) fun c xs q=>up c _ q
section
variable {prog:Program} {w:World} {A:Around} {E:Value→Shared→Prop} {s:Shared}
theorem alive_ {a:Addr} {Q:Option Obj→Shared→Prop} (h:Q (s.heap.get? a) s):wpAny (model prog w) A (loadIfAlive a) Q E s:=fun Γ p _=>by
 show Sem.wp _ _ (.loadIfAlive a .pure) _ _ _ _
 rw [Sem.wp_loadIfAlive]
 simpa using h
abbrev qfF (h:Heap) (z TI TO:Addr) (f0:Value) (b1:Bool):Prop:=h.get? z=some { cls:=.type "zip",dict:=none,data:=.fields #[f0,.bool b1,.bool false,.ref TI,.ref TO],slots:=#[] }
theorem qf4 {z TI TO T:Addr} {b1:Bool} {oT:Obj} {Q:Bool→Shared→Prop} (hz:qfF s.heap z TI TO (rawInt T) b1) (hT:s.heap.get? T=some oT)
  (hQ:∀ h',qfF h' z TI TO (rawInt T) true→Heap.SameBut z s.heap h'→Q false { s with heap:=h' }):wpAny (model prog w) A (Builtin.SmallTypes.ownedTupleIsFree (.ref z)) Q E s:=by
 unfold Builtin.SmallTypes.ownedTupleIsFree
 refine wpAny_bind (wpAny_field hz rfl (x:=rawInt T) rfl ?_)
 show wpAny _ _ (loadIfAlive T>>=_) _ _ _
 refine wpAny_bind (alive_ ?_)
 rw [hT]
 show wpAny _ _ (field (.ref z) 1>>=_) _ _ _
 refine wpAny_bind (wpAny_field hz rfl (x:=.bool b1) rfl ?_)
 cases b1 with
 | true=>exact wpAny_pure (hQ _ hz ⟨rfl,fun _ _=>rfl⟩)
 | false =>
  show wpAny _ _ (setField (.ref z) 1 (.bool true)>>=_) _ _ _
  exact wpAny_bind (wpAny_setField_rec hz (by simp) fun h1 e1 k1=>wpAny_pure (hQ h1 e1 k1))
theorem znx {z TI TO i1 i2 a b T:Addr} {b1:Bool} {oT:Obj} {k1 k2:Nat} {xs ys:Array Value} {x y:Value} {Q:Value→Shared→Prop} (D:ZipApart z TI TO i1 i2 a b)
  (hz:qfF s.heap z TI TO (rawInt T) b1) (hT:s.heap.get? T=some oT) (hTI:IsPair s.heap TI (.ref i1) (.ref i2))
  (h1:s.heap.IsListIter i1 a k1) (h2:s.heap.IsListIter i2 b k2) (hl1:s.heap.IsList a xs) (hl2:s.heap.IsList b ys) (hx:xs[k1]?=some x) (hy:ys[k2]?=some y)
  (hQ:∀ h',qfF h' z TI TO (rawInt T) true→h'.IsListIter i1 a (k1 + 1)→h'.IsListIter i2 b (k2 + 1)→IsPair h' s.heap.objs.size x y→h'.objs.size=s.heap.objs.size + 1 →
   (∀ c o,c≠z→c≠i1→c≠i2→s.heap.get? c=some o→h'.get? c=some o)→Q (.ref s.heap.objs.size) { s with heap:=h' }) :
  wpAny (model prog w) A (Builtin.«zip.__next__» ⟨[.ref z],[]⟩) (fun fin s'=>∃ v,fin=.done (.ret v)∧Q v s') E s:=by
 show wpAny _ _ (field (.ref z) 2>>=_) _ _ _
 refine wpAny_bind <| wpAny_field hz rfl (x:=.bool false) rfl ?_
 show wpAny _ _ (field (.ref z) 3>>=_) _ _ _
 refine wpAny_bind <| wpAny_field hz rfl (x:=.ref TI) rfl ?_
 refine wpAny_bind <| wpAny_seqItems hTI rfl ?_
 show wpAny _ _ (Builtin.SmallTypes.ownedTupleIsFree _>>=_) _ _ _
 refine wpAny_bind <| qf4 hz hT fun g1 z1 s1=>?_
 simp only [Bool.false_eq_true,if_false]
 refine wpAny_bind ?_
 rw [← Array.forIn_toList]
 simp only [List.forIn_cons,List.forIn_nil]
 refine wpAny_bind (wpAny_bind (wpAny_holding ?_))
 show wpAny _ _ (Builtin.SmallTypes.nextOf (.ref i1)>>=_) _ _ _
 refine wpAny_bind <| wpAny_nextOf_list_item (h1.extBut s1.extBut D.i1z) (hl1.extBut s1.extBut D.l1z) hx fun g2 p2 s2=>wpAny_pure (wpAny_pure ?_)
 refine wpAny_bind (wpAny_bind (wpAny_holding ?_))
 show wpAny _ _ (Builtin.SmallTypes.nextOf (.ref i2)>>=_) _ _ _
 refine wpAny_bind <| wpAny_nextOf_list_item ((h2.extBut s1.extBut D.i2z).extBut s2.extBut D.i12.symm) ((hl2.extBut s1.extBut D.l2z).extBut s2.extBut D.l2i1) hy fun g3 p3 s3=>wpAny_pure (wpAny_pure (wpAny_pure ?_))
 refine wpAny_bind (wpAny_newTuple (wpAny_pure ⟨_,rfl,?_⟩) (by show 2≤sizeLine;decide))
 have es:g3.objs.size=s.heap.objs.size:=by rw [s3.1,s2.1,s1.1]
 have kp:∀ c o,c≠z→c≠i1→c≠i2→s.heap.get? c=some o→g3.get? c=some o:=fun c o n1 n2 n3 e=>s3.extBut _ _ n3 (s2.extBut _ _ n2 (s1.extBut _ _ n1 e))
 rw [show (Value.ref g3.objs.size)=.ref s.heap.objs.size by rw [es]]
 refine hQ _ (Heap.get?_push_of_some _ (s3.extBut _ _ D.i2z.symm (s2.extBut _ _ D.i1z.symm z1))) ((p2.extBut s3.extBut D.i12).at fun o e=>Heap.get?_push_of_some _ e) (p3.at fun o e=>Heap.get?_push_of_some _ e) ?_ (by rw [Heap.size_push,es]) fun c o n1 n2 n3 e=>Heap.get?_push_of_some _ (kp c o n1 n2 n3 e)
 rw [← es]
 exact Heap.get?_push_size _ rfl
theorem zne {z TI TO i1 i2 a b T:Addr} {b1:Bool} {oT:Obj} {k1 k2:Nat} {xs ys:Array Value} {Q:Fin→Shared→Prop} (hh:A.handled=none) (D:ZipApart z TI TO i1 i2 a b)
  (hz:qfF s.heap z TI TO (rawInt T) b1) (hT:s.heap.get? T=some oT) (hTI:IsPair s.heap TI (.ref i1) (.ref i2))
  (h1:s.heap.IsListIter i1 a k1) (h2:s.heap.IsListIter i2 b k2) (hl1:s.heap.IsList a xs) (hl2:s.heap.IsList b ys) (hend:xs[k1]?=none∨ys[k2]?=none)
  (hE:∀ h' e,(∀ c o,c≠z→c≠i1→c≠i2→s.heap.get? c=some o→h'.get? c=some o)→(∃ o,h'.get? e=some o∧o.cls=.type "StopIteration")→E (.ref e) { s with heap:=h' }) :
  wpAny (model prog w) A (Builtin.«zip.__next__» ⟨[.ref z],[]⟩) Q E s:=by
 show wpAny _ _ (field (.ref z) 2>>=_) _ _ _
 refine wpAny_bind <| wpAny_field hz rfl (x:=.bool false) rfl ?_
 show wpAny _ _ (field (.ref z) 3>>=_) _ _ _
 refine wpAny_bind <| wpAny_field hz rfl (x:=.ref TI) rfl ?_
 refine wpAny_bind <| wpAny_seqItems hTI rfl ?_
 show wpAny _ _ (Builtin.SmallTypes.ownedTupleIsFree _>>=_) _ _ _
 refine wpAny_bind <| qf4 hz hT fun g1 z1 s1=>?_
 simp only [Bool.false_eq_true,if_false]
 refine wpAny_bind ?_
 rw [← Array.forIn_toList]
 simp only [List.forIn_cons,List.forIn_nil]
 refine wpAny_bind (wpAny_bind (wpAny_holding ?_))
 show wpAny _ _ (Builtin.SmallTypes.nextOf (.ref i1)>>=_) _ _ _
 cases hx:xs[k1]? with
 | none=>exact wpAny_bind <| wpAny_nextOf_list_end hh (h1.extBut s1.extBut D.i1z) (hl1.extBut s1.extBut D.l1z) hx fun g2 e s2 he=>hE g2 e (fun c o n1 n2 _ q=>s2 _ _ n2 (s1.extBut _ _ n1 q)) he
 | some x =>
  have hy:ys[k2]?=none:=hend.elim (fun z=>by rw [hx] at z;cases z) id
  refine wpAny_bind <| wpAny_nextOf_list_item (h1.extBut s1.extBut D.i1z) (hl1.extBut s1.extBut D.l1z) hx fun g2 p2 s2=>wpAny_pure (wpAny_pure ?_)
  refine wpAny_bind (wpAny_bind (wpAny_holding ?_))
  show wpAny _ _ (Builtin.SmallTypes.nextOf (.ref i2)>>=_) _ _ _
  exact wpAny_bind <| wpAny_nextOf_list_end hh ((h2.extBut s1.extBut D.i2z).extBut s2.extBut D.i12.symm) ((hl2.extBut s1.extBut D.l2z).extBut s2.extBut D.l2i1) hy fun g3 e s3 he=>hE g3 e (fun c o n1 n2 n3 q=>s3 _ _ n3 (s2.extBut _ _ n2 (s1.extBut _ _ n1 q))) he
def ZAt (z TI TO N:Nat) (h:Heap):Prop:=IsZip h z TI TO .none∨∃ T b1 o,N≤T∧qfF h z TI TO (rawInt (T:Nat)) b1∧h.get? T=some o
theorem ZAt.typ {z TI TO N:Nat} (h:ZAt z TI TO N s.heap):s.TypeIs (.ref z) "zip":=by
 rcases h with e | ⟨_,_,_,_,e,_⟩<;>exact ⟨_,e,rfl⟩
theorem znx_any {z TI TO i1 i2 a b N:Addr} {k1 k2:Nat} {xs ys:Array Value} {x y:Value} {Q:Option Value→Shared→Prop} (D:ZipApart z TI TO i1 i2 a b) (hN:N≤s.heap.objs.size)
  (hz:ZAt z TI TO N s.heap) (hTI:IsPair s.heap TI (.ref i1) (.ref i2)) (hTO:∃ u v,IsPair s.heap TO u v)
  (h1:s.heap.IsListIter i1 a k1) (h2:s.heap.IsListIter i2 b k2) (hl1:s.heap.IsList a xs) (hl2:s.heap.IsList b ys) (hx:xs[k1]?=some x) (hy:ys[k2]?=some y) (hlt:z < N∧i1 < N∧i2 < N)
  (hQ:∀ h',ZAt z TI TO N h'→(∃ u v,IsPair h' TO u v)→h'.IsListIter i1 a (k1 + 1)→h'.IsListIter i2 b (k2 + 1)→IsPair h' s.heap.objs.size x y→h'.objs.size=s.heap.objs.size + 1 →
   (∀ c o,c≠z→c≠TO→c≠i1→c≠i2→s.heap.get? c=some o→h'.get? c=some o)→Q (some (.ref s.heap.objs.size)) { s with heap:=h' }) :
  wpAny (model prog w) A (pyNext (.ref z)) Q E s:=by
 obtain ⟨u,v,hTO⟩:=hTO
 have typ:=hz.typ
 rcases hz with hz | ⟨T,b1,o,hT,hz,ho⟩
 ·refine wpAny_pyNext_zip_item D hz hTI hTO h1 h2 hl1 hl2 hx hy fun g e1 e2 e3 e4 e5 e6 e7=>hQ g (.inr ⟨s.heap.objs.size,false,_,hN,e1,e5⟩) ⟨_,_,e2⟩ e3 e4 e5 e6 e7
 ·unfold pyNext
  refine wpAny_bind (wpAny_attempt (wpAny_callSpecial?_slot (name:=Str.ofString "__next__") typ F.slot_zip_next (wpAny_call_entry F.slot_zip_next typ F.entry_zip_next (znx D hz ho hTI h1 h2 hl1 hl2 hx hy fun g e1 e3 e4 e5 e6 e7=>wpAny_pure ?_) (F.args_zip_next_1 _))))
  exact hQ g (.inr ⟨T,true,o,hT,e1,e7 _ _ (Nat.ne_of_gt (yj hlt.1 hT)) (Nat.ne_of_gt (yj hlt.2.1 hT)) (Nat.ne_of_gt (yj hlt.2.2 hT)) ho⟩) ⟨_,_,e7 _ _ D.TOz D.TOi1 D.TOi2 hTO⟩ e3 e4 e5 e6 fun c q n1 _ n2 n3 e=>e7 c q n1 n2 n3 e
theorem zne_any {z TI TO i1 i2 a b N:Addr} {k1 k2:Nat} {xs ys:Array Value} {Q:Option Value→Shared→Prop} (hh:A.handled=none) (D:ZipApart z TI TO i1 i2 a b)
  (hz:ZAt z TI TO N s.heap) (hTI:IsPair s.heap TI (.ref i1) (.ref i2)) (hTO:∃ u v,IsPair s.heap TO u v)
  (h1:s.heap.IsListIter i1 a k1) (h2:s.heap.IsListIter i2 b k2) (hl1:s.heap.IsList a xs) (hl2:s.heap.IsList b ys) (hend:xs[k1]?=none∨ys[k2]?=none)
  (hQ:∀ h',(∀ c o,c≠z→c≠TO→c≠i1→c≠i2→s.heap.get? c=some o→h'.get? c=some o)→Q none { s with heap:=h' }):wpAny (model prog w) A (pyNext (.ref z)) Q E s:=by
 obtain ⟨u,v,hTO⟩:=hTO
 have typ:=hz.typ
 rcases hz with hz | ⟨T,b1,o,hT,hz,ho⟩
 ·exact wpAny_pyNext_zip_end hh D hz hTI hTO h1 h2 hl1 hl2 hend hQ
 ·unfold pyNext
  refine wpAny_bind (wpAny_attempt (wpAny_callSpecial?_slot (name:=Str.ofString "__next__") typ F.slot_zip_next (wpAny_call_entry F.slot_zip_next typ F.entry_zip_next (zne hh D hz ho hTI h1 h2 hl1 hl2 hend fun g e k he=>?_) (F.args_zip_next_1 _))))
  obtain ⟨q,hq,hc⟩:=he
  refine wpAny_bind (wpAny_isInstance (T:="StopIteration") (b:=true) ⟨q,hq,hc⟩ isSubtype_stop ?_)
  exact wpAny_pure (hQ _ fun c o n1 _ n2 n3 e=>k c o n1 n2 n3 e)
end
structure LZ (z TI TO i1 i2 a b S N:Nat) (xs ys:Array Value) (h0:Heap) (i:Nat) (acc:Array Value) (c:Nat) (h:Heap):Prop where
 zp:ZAt z TI TO N h
 ti:IsPair h TI (.ref i1) (.ref i2)
 tO:∃ u v,IsPair h TO u v
 j1:h.IsListIter i1 a i
 j2:h.IsListIter i2 b i
 la:h.IsList a xs
 lb:h.IsList b ys
 ls:h.get? S=some { cls:=.type "list",dict:=none,data:=.seq acc c,slots:=#[] }
 sz:N≤h.objs.size
 len:acc.size=i
 its:∀ (j:Nat) v,acc[j]?=some v→∃ t x y,v=.ref t∧N≤t∧IsPair h t x y∧xs[j]?=some x∧ys[j]?=some y
 nd:∀ (j k:Nat) v,acc[j]?=some v→acc[k]?=some v→j=k
 kp:∀ q o,q < N→q≠z→q≠TO→q≠i1→q≠i2→q≠S→h0.get? q=some o→h.get? q=some o
structure LE (z TO i1 i2 S N:Nat) (xs ys:Array Value) (h0:Heap) (n:Nat) (acc:Array Value) (c:Nat) (h:Heap):Prop where
 ls:h.get? S=some { cls:=.type "list",dict:=none,data:=.seq acc c,slots:=#[] }
 len:acc.size=n
 its:∀ (j:Nat) v,acc[j]?=some v→∃ t x y,v=.ref t∧N≤t∧IsPair h t x y∧xs[j]?=some x∧ys[j]?=some y
 nd:∀ (j k:Nat) v,acc[j]?=some v→acc[k]?=some v→j=k
 kp:∀ q o,q < N→q≠z→q≠TO→q≠i1→q≠i2→q≠S→h0.get? q=some o→h.get? q=some o
structure LA (z TI TO i1 i2 a b S N:Nat):Prop where
 D:ZipApart z TI TO i1 i2 a b
 lt:z < S∧TI < S∧TO < S∧i1 < S∧i2 < S∧a < S∧b < S
 S:S < N
theorem LZ.at {z TI TO i1 i2 a b S N:Nat} {xs ys:Array Value} {h0 h h':Heap} {i c c':Nat} {acc acc':Array Value} (L:LA z TI TO i1 i2 a b S N) (x:LZ z TI TO i1 i2 a b S N xs ys h0 i acc c h)
  (k:Heap.SameBut S h h') (ls:h'.get? S=some { cls:=.type "list",dict:=none,data:=.seq acc' c',slots:=#[] }) (len:acc'.size=i) (its:∀ (j:Nat) v,acc'[j]?=some v→∃ t x y,v=.ref t∧N≤t∧IsPair h t x y∧xs[j]?=some x∧ys[j]?=some y) (nd:∀ (j k:Nat) v,acc'[j]?=some v→acc'[k]?=some v→j=k):LZ z TI TO i1 i2 a b S N xs ys h0 i acc' c' h':=by
 obtain ⟨l1,l2,l3,l4,l5,l6,l7⟩:=L.lt
 have hS:=L.S
 have kk:∀ {q o},q≠S→h.get? q=some o→h'.get? q=some o:=fun n e=>k.extBut _ _ n e
 refine ⟨?_,kk (Nat.ne_of_lt l2) x.ti,?_,x.j1.at fun o e=>kk (Nat.ne_of_lt l4) e,x.j2.at fun o e=>kk (Nat.ne_of_lt l5) e,x.la.extBut k.extBut (Nat.ne_of_lt l6),x.lb.extBut k.extBut (Nat.ne_of_lt l7),ls,by rw [k.1];exact x.sz,len,fun j v e=>?_,nd,fun q o a1 a2 a3 a4 a5 a6 e=>kk a6 (x.kp q o a1 a2 a3 a4 a5 a6 e)⟩
 ·rcases x.zp with e | ⟨T,b1,o,hT,e,eo⟩
  ·exact .inl (kk (Nat.ne_of_lt l1) e)
  ·exact .inr ⟨T,b1,o,hT,kk (Nat.ne_of_lt l1) e,kk (Nat.ne_of_gt (yj hS hT)) eo⟩
 ·obtain ⟨u,v,e⟩:=x.tO
  exact ⟨u,v,kk (Nat.ne_of_lt l3) e⟩
 ·obtain ⟨t,u,v,e1,e2,e3,e4⟩:=its j v e
  exact ⟨t,u,v,e1,e2,kk (Nat.ne_of_gt (yj hS e2)) e3,e4⟩
section
variable {prog:Program} {w:World} {A:Around} {R:Result→Shared→Prop} {z TI TO i1 i2 a b S N:Nat} {xs ys:Array Value} {h0:Heap}
theorem zloop (hh:A.handled=none) (L:LA z TI TO i1 i2 a b S N) (hn:min xs.size ys.size≤2 ^ 24) (res:Value):∀ (k i:Nat) (s:Shared) (acc:Array Value) (c:Nat),min xs.size ys.size - i=k→i≤min xs.size ys.size→LZ z TI TO i1 i2 a b S N xs ys h0 i acc c s.heap →
  (∀ h' acc' c',LE z TO i1 i2 S N xs ys h0 (min xs.size ys.size) acc' c' h'→R (.ok (.ret res)) { s with heap:=h' })→codeAny (model prog w) A (.builtin "list.extend.loop" ⟨[.ref S,.ref z,res],[]⟩) R s:=by
 have hS:=L.S
 obtain ⟨l1,l2,l3,l4,l5,l6,l7⟩:=L.lt
 have ap:∀ {t q:Nat},N≤t→q < S→t≠q:=fun h1 h2=>by omega
 intro k
 induction k with
 | zero =>
  intro i s acc c hk hi x hR
  refine codeAny_builtin F.entry_extend_loop ?_
  rw [Around.under_plainId F.plain_extend_loop _]
  show wpAny _ A.in1 (pyNext _>>=_) _ _ s
  have he:xs[i]?=none∨ys[i]?=none:=by
   rcases Nat.le_total xs.size ys.size with q | q
   ·exact .inl (Array.getElem?_eq_none (by omega))
   ·exact .inr (Array.getElem?_eq_none (by omega))
  refine wpAny_bind (zne_any hh L.D x.zp x.ti x.tO x.j1 x.j2 x.la x.lb he fun h' kk=>wpAny_pure (hR h' acc c ⟨?_,by rw [x.len];omega,fun j v e=>?_,x.nd,fun q o a1 a2 a3 a4 a5 a6 e=>kk q o a2 a3 a4 a5 (x.kp q o a1 a2 a3 a4 a5 a6 e)⟩))
  ·exact kk S _ (Nat.ne_of_gt l1) (Nat.ne_of_gt l3) (Nat.ne_of_gt l4) (Nat.ne_of_gt l5) x.ls
  ·obtain ⟨t,u,v,e1,e2,e3,e4⟩:=x.its j v e
   exact ⟨t,u,v,e1,e2,kk t _ (ap e2 l1) (ap e2 l3) (ap e2 l4) (ap e2 l5) e3,e4⟩
 | succ k ih =>
  intro i s acc c hk hi x hR
  refine codeAny_builtin F.entry_extend_loop ?_
  rw [Around.under_plainId F.plain_extend_loop _]
  show wpAny _ A.in1 (pyNext _>>=_) _ _ s
  obtain ⟨u,hu⟩:∃ u,xs[i]?=some u:=⟨_,Array.getElem?_eq_getElem (by omega)⟩
  obtain ⟨v,hv⟩:∃ v,ys[i]?=some v:=⟨_,Array.getElem?_eq_getElem (by omega)⟩
  refine wpAny_bind (znx_any L.D x.sz x.zp x.ti x.tO x.j1 x.j2 x.la x.lb hu hv ⟨Nat.lt_trans l1 hS,Nat.lt_trans l4 hS,Nat.lt_trans l5 hS⟩ fun h1 z1 to1 e1 e2 eP esz kk=>?_)
  have hS1:=kk S _ (Nat.ne_of_gt l1) (Nat.ne_of_gt l3) (Nat.ne_of_gt l4) (Nat.ne_of_gt l5) x.ls
  show wpAny _ A.in1 (updateSeq S (·.push (.ref s.heap.objs.size))>>=_) _ _ _
  have hlen:=x.len
  have hN:=x.sz
  have nin:∀ j:Nat,acc[j]?≠some (.ref s.heap.objs.size):=fun j e=>by
   obtain ⟨t,u',w',q1,q2,q3,_⟩:=x.its j _ e
   cases q1
   exact absurd (Heap.lt_size q3) (Nat.lt_irrefl _)
  have ndp:∀ (j k:Nat) v',(acc.push (.ref s.heap.objs.size))[j]?=some v'→(acc.push (.ref s.heap.objs.size))[k]?=some v'→j=k:=fun j k v' e1 e2=>by
   rw [Array.getElem?_push] at e1 e2
   split at e1<;>split at e2
   ·rename_i a1 a2;rw [a1,a2]
   ·cases e1;exact absurd e2 (nin k)
   ·cases e2;exact absurd e1 (nin j)
   ·exact x.nd j k v' e1 e2
  obtain ⟨c',upS⟩:∃ c',(h1.update S (Obj.mapSeq (·.push (.ref s.heap.objs.size)))).get? S=some { cls:=.type "list",dict:=none,data:=.seq (acc.push (.ref s.heap.objs.size)) c',slots:=#[] }:=⟨_,Heap.get?_update_self (Obj.mapSeq (·.push (.ref s.heap.objs.size))) hS1 rfl⟩
  refine wpAny_bind (wpAny_updateSeq hS1 rfl (wpAny_pure ⟨plainId_quiet F.plain_extend_loop _,ih (i + 1) _ (acc.push (.ref s.heap.objs.size)) c' (by omega) (by omega) ?_ hR⟩) ?_ ?_)
  ·have sb:Heap.SameBut S h1 (h1.update S (Obj.mapSeq (·.push (.ref s.heap.objs.size)))):=Heap.SameBut.update ..
   have k2:∀ {q o},q≠S→h1.get? q=some o→(h1.update S (Obj.mapSeq (·.push (.ref s.heap.objs.size)))).get? q=some o:=fun n e=>sb.extBut _ _ n e
   refine ⟨?_,k2 (Nat.ne_of_lt l2) (kk _ _ L.D.TIz L.D.TITO L.D.TIi1 L.D.TIi2 x.ti),?_,e1.at fun o e=>k2 (Nat.ne_of_lt l4) e,e2.at fun o e=>k2 (Nat.ne_of_lt l5) e,?_,?_,upS,by rw [sb.1,esz];omega,by rw [Array.size_push,hlen],fun j v' e=>?_,ndp,fun q o a1 a2 a3 a4 a5 a6 e=>k2 a6 (kk q o a2 a3 a4 a5 (x.kp q o a1 a2 a3 a4 a5 a6 e))⟩
   ·rcases z1 with e | ⟨T,b1,o,hT,e,eo⟩
    ·exact .inl (k2 (Nat.ne_of_lt l1) e)
    ·exact .inr ⟨T,b1,o,hT,k2 (Nat.ne_of_lt l1) e,k2 (Nat.ne_of_gt (yj hS hT)) eo⟩
   ·obtain ⟨u',v',e⟩:=to1
    exact ⟨u',v',k2 (Nat.ne_of_lt l3) e⟩
   ·obtain ⟨o,e,d⟩:=x.la
    exact ⟨o,k2 (Nat.ne_of_lt l6) (kk _ _ L.D.l1z L.D.l1TO L.D.l1i1 L.D.l1i2 e),d⟩
   ·obtain ⟨o,e,d⟩:=x.lb
    exact ⟨o,k2 (Nat.ne_of_lt l7) (kk _ _ L.D.l2z L.D.l2TO L.D.l2i1 L.D.l2i2 e),d⟩
   ·rw [Array.getElem?_push] at e
    split at e
    ·rename_i ej
     cases e
     rw [ej,hlen]
     exact ⟨_,u,v,rfl,hN,k2 (Nat.ne_of_gt (yj hS hN)) eP,hu,hv⟩
    ·obtain ⟨t,u',w',q1,q2,q3,q4⟩:=x.its j v' e
     exact ⟨t,u',w',q1,q2,k2 (Nat.ne_of_gt (yj hS q2)) (kk t _ (ap q2 l1) (ap q2 l3) (ap q2 l4) (ap q2 l5) q3),q4⟩
  ·rw [hlen,sizeLine_eq];omega
  ·show (acc.push _).size≤sizeLine + 1
   rw [Array.size_push,hlen,sizeLine_eq];omega
theorem zip_len0:typeLookup (.type "zip") "__len__"=pure none:=by rw [typeLookup_type,builtinLookup_eq_fast];kernel_rfl
theorem zip_hint0:typeLookup (.type "zip") "__length_hint__"=pure none:=by rw [typeLookup_type,builtinLookup_eq_fast];kernel_rfl
theorem zext {s:Shared} {c0:Nat} (hh:A.handled=none) (L:LA z TI TO i1 i2 a b S N) (hn:min xs.size ys.size≤2 ^ 24) (res:Value) (hz:IsZip s.heap z TI TO .none) (x:LZ z TI TO i1 i2 a b S N xs ys h0 0 #[] c0 s.heap)
  (hR:∀ h' acc' c',LE z TO i1 i2 S N xs ys h0 (min xs.size ys.size) acc' c' h'→R (.ok (.ret res)) { s with heap:=h' }) :
  wpAny (model prog w) A.in1 (Builtin.List.listExtendWith (.ref S) (.ref z) res) (fun fin s'=>match fin with | .done f=>R (.ok f) s' | .again c'=>c'.quiet=true∧codeAny (model prog w) A c' R s') (fun e s'=>R (.error e) s') s:=by
 obtain ⟨l1,_⟩:=L.lt
 have typ:s.TypeIs (.ref z) "zip":=⟨_,hz,rfl⟩
 unfold Builtin.List.listExtendWith
 refine wpAny_bind <| wpAny_typeOf typ ?_
 have q1:Builtin.List.listSameRef (.ref S) (.ref z)=false:=by simp [Builtin.List.listSameRef,Nat.ne_of_gt l1]
 have q2:(Value.type "zip"==.type "list")=false∧(Value.type "zip"==.type "tuple")=false:=by decide
 simp only [q1,q2.1,q2.2,Bool.or_false,Bool.false_eq_true,if_false]
 refine wpAny_bind <| wpAny_pyIter_zip hz <| wpAny_bind <| wpAny_holding ?_
 unfold Builtin.List.listLengthHint
 refine wpAny_bind <| wpAny_specialOf typ zip_len0 ?_
 show wpAny _ _ (specialOf (Value.ref z) (Str.ofString "__length_hint__")>>=_) _ _ _
 refine wpAny_bind <| wpAny_specialOf typ zip_hint0 <| wpAny_pure ?_
 show wpAny _ _ (rule "list.extend.makes-room">>=fun _=>Builtin.List.listTouch (.ref S)>>=fun _=>again (.builtin "list.extend.loop" ⟨[.ref S,.ref z,res],[]⟩)) _ _ _
 refine wpAny_bind <| wpAny_rule <| wpAny_bind ?_
 show wpAny _ _ (updateSeq S (·.push .none)>>=fun _=>updateSeq S (·.pop)) _ _ _
 refine wpAny_bind <| wpAny_updateSeq x.ls rfl ?_
 have e2:=Heap.get?_update_self (Obj.mapSeq (·.push Value.none)) x.ls rfl
 refine wpAny_updateSeq (hz:=by seq_fits) e2 rfl ?_
 have e3:=Heap.get?_update_self (Obj.mapSeq (·.pop)) e2 rfl
 have sb:Heap.SameBut S s.heap ((s.heap.update S (Obj.mapSeq (·.push Value.none))).update S (Obj.mapSeq (·.pop))):=by
  have k1:Heap.SameBut S s.heap (s.heap.update S (Obj.mapSeq (·.push Value.none))):=Heap.SameBut.update ..
  have k2:Heap.SameBut S (s.heap.update S (Obj.mapSeq (·.push Value.none))) ((s.heap.update S (Obj.mapSeq (·.push Value.none))).update S (Obj.mapSeq (·.pop))):=Heap.SameBut.update ..
  exact ⟨k2.1.trans k1.1,fun q n=>(k2.2 q n).trans (k1.2 q n)⟩
 exact wpAny_pure ⟨plainId_quiet F.plain_extend_loop _,zloop hh L hn res _ 0 _ #[] _ rfl (Nat.zero_le _) (x.at L sb e3 rfl (fun j v e=>by simp at e) fun j k v e=>by simp at e) hR⟩
theorem zinit {s:Shared} {c0:Nat} (hh:A.handled=none) (L:LA z TI TO i1 i2 a b S N) (hn:min xs.size ys.size≤2 ^ 24) (hz:IsZip s.heap z TI TO .none) (x:LZ z TI TO i1 i2 a b S N xs ys h0 0 #[] c0 s.heap)
  (hR:∀ h' acc' c',LE z TO i1 i2 S N xs ys h0 (min xs.size ys.size) acc' c' h'→R (.ok (.ret .none)) { s with heap:=h' }) :
  wpAny (model prog w) A.in1 (Builtin.«list.__init__» ⟨[.ref S,.ref z],[]⟩) (fun fin s'=>match fin with | .done f=>R (.ok f) s' | .again c'=>c'.quiet=true∧codeAny (model prog w) A c' R s') (fun e s'=>R (.error e) s') s:=by
 obtain ⟨l1,_⟩:=L.lt
 show wpAny _ _ (do let old ← Builtin.List.listItems (.ref S);Builtin.List.listUpdate (.ref S) (fun _=>#[]);letGo old.toList.reverse;Builtin.List.listExtendWith (.ref S) (.ref z) .none) _ _ s
 refine wpAny_bind ?_
 unfold Builtin.List.listItems
 refine wpAny_bind <| wpAny_seqItems x.ls rfl <| wpAny_pure ?_
 show wpAny _ _ (updateSeq S (fun _=>#[])>>=fun _=>letGo _>>=fun _=>Builtin.List.listExtendWith (.ref S) (.ref z) .none) _ _ s
 refine wpAny_bind <| wpAny_updateSeq x.ls rfl ?_
 have e2:=Heap.get?_update_self (Obj.mapSeq (fun _=>(#[]:Array Value))) x.ls rfl
 have sb:Heap.SameBut S s.heap (s.heap.update S (Obj.mapSeq (fun _=>(#[]:Array Value)))):=Heap.SameBut.update ..
 refine wpAny_bind <| wpAny_letGo ?_
 exact zext hh L hn .none (sb.extBut _ _ (Nat.ne_of_lt l1) hz) (x.at L sb e2 rfl (fun j v e=>by simp at e) fun j k v e=>by simp at e) hR
end
section
variable {prog:Program} {w:World} {A:Around} {E:Value→Shared→Prop} {s:Shared}
theorem call_list_zip {z TI TO i1 i2 a b:Nat} {xs ys:Array Value} {Q:Value→Shared→Prop} (hh:A.handled=none) (D:ZipApart z TI TO i1 i2 a b) (hn:min xs.size ys.size≤2 ^ 24) (hz:IsZip s.heap z TI TO .none) (hTI:IsPair s.heap TI (.ref i1) (.ref i2)) (hTO:∃ u v,IsPair s.heap TO u v)
  (h1:s.heap.IsListIter i1 a 0) (h2:s.heap.IsListIter i2 b 0) (hl1:s.heap.IsList a xs) (hl2:s.heap.IsList b ys)
  (hQ:∀ h' acc' c',LE z TO i1 i2 s.heap.objs.size (s.heap.objs.size + 1) xs ys s.heap (min xs.size ys.size) acc' c' h'→Q (.ref s.heap.objs.size) { s with heap:=h' }):wpAny (model prog w) A (call (.type "list") [.ref z]) Q E s:=by
 refine callType_codes (Q₁:=fun obj s₁=>obj=.ref s.heap.objs.size∧s₁={ s with heap:=s.heap.push { cls:=.type "list",data:=.seq #[] } }) F.called_list (F.typeCall_list_1 _) F.entry_list_init (code_list_new _ ⟨rfl,rfl⟩) fun obj s₁ h₁=>?_
 obtain ⟨rfl,rfl⟩:=h₁
 have hS:(s.heap.push { cls:=.type "list",data:=.seq #[] }).get? s.heap.objs.size=some { cls:=.type "list",data:=.seq #[] }:=Heap.get?_push_size _ rfl
 have up:∀ {q o},s.heap.get? q=some o→(s.heap.push { cls:=.type "list",data:=.seq #[] }).get? q=some o:=fun e=>Heap.get?_push_of_some _ e
 have lt:∀ {q o},s.heap.get? q=some o→q < s.heap.objs.size:=fun e=>Heap.lt_size e
 obtain ⟨u,v,hTO⟩:=hTO
 have L:LA z TI TO i1 i2 a b s.heap.objs.size (s.heap.objs.size + 1):=by
  refine ⟨D,⟨lt hz,lt hTI,lt hTO,?_,?_,?_,?_⟩,Nat.lt_succ_self _⟩
  ·obtain ⟨_,e,_⟩:=h1;exact lt e
  ·obtain ⟨_,e,_⟩:=h2;exact lt e
  ·obtain ⟨_,e,_⟩:=hl1;exact lt e
  ·obtain ⟨_,e,_⟩:=hl2;exact lt e
 have x:LZ z TI TO i1 i2 a b s.heap.objs.size (s.heap.objs.size + 1) xs ys s.heap 0 #[] 0 (s.heap.push { cls:=.type "list",data:=.seq #[] }):=by
  refine ⟨.inl (up hz),up hTI,⟨u,v,up hTO⟩,h1.at fun o e=>up e,h2.at fun o e=>up e,?_,?_,hS,by rw [Heap.size_push];exact yh _,rfl,fun j v e=>by simp at e,fun j k v e=>by simp at e,fun q o _ _ _ _ _ _ e=>up e⟩
  ·obtain ⟨o,e,d⟩:=hl1;exact ⟨o,up e,d⟩
  ·obtain ⟨o,e,d⟩:=hl2;exact ⟨o,up e,d⟩
 exact ⟨⟨_,hS,rfl⟩,F.args_list_init_2 _ _,zinit (A:=A.in1) hh L hn (up hz) x fun h' acc' c' hE=>⟨rfl,hQ h' acc' c' hE⟩⟩
end
structure Zl (H H':Hp) (l:Addr) (ts:List Addr) (xs ys:List V):Prop where
 sm:L2.Same H H'
 fl:H l=none
 ls:H' l=some (.lst (ts.map V.ref))
 len:ts.length=min xs.length ys.length
 tp:∀ (j:Nat) t,ts[j]?=some t→H t=none∧∃ x y,xs[j]?=some x∧ys[j]?=some y∧H' t=some (.tup [x,y])
theorem qf5 (H:Hp):∀ (ts:List Addr) (xs ys:List V),ts.Nodup→ts.length≤xs.length→ts.length≤ys.length→∃ G:Hp,(∀ (j:Nat) t x y,ts[j]?=some t→xs[j]?=some x→ys[j]?=some y→G t=some (.tup [x,y]))∧∀ q,q∉ts→G q=H q
 | [],_,_,_,_,_=>⟨H,fun j t x y e=>by simp at e,fun _ _=>rfl⟩
 | t::ts,[],_,_,h,_=>by simp at h
 | t::ts,_::_,[],_,_,h=>by simp at h
 | t::ts,x::xs,y::ys,nd,h1,h2=>by
  obtain ⟨n1,n2⟩:=yo.mp nd
  obtain ⟨G,g1,g2⟩:=qf5 H ts xs ys n2 (by simpa using h1) (by simpa using h2)
  refine ⟨upd G t (.tup [x,y]),fun j t' x' y' e1 e2 e3=>?_,fun q hq=>?_⟩
  ·cases j with
   | zero=>simp at e1 e2 e3;subst e1 e2 e3;exact qc
   | succ j =>
    have e1':ts[j]?=some t':=by simpa using e1
    rw [qh fun z=>n1 (by rw [← z];exact ye e1')]
    exact g1 j t' x' y' e1' (by simpa using e2) (by simpa using e3)
  ·rw [qh fun z=>hq (by rw [z];exact List.mem_cons_self)]
   exact g2 q fun z=>hq (List.mem_cons_of_mem _ z)
def refN:Value→Nat
 | .ref a=>a
 | _=>0
def tLZ (K:yg) (ta:TA):TE:=fun σ H Q=>ta σ H fun vs H1=>∃ a b xs ys,vs=[.ref a,.ref b]∧SqL K H1 a xs∧SqL K H1 b ys∧xs.length≤1000∧∀ l ts H',Zl H1 H' l ts xs ys→Q (.ref l) H'
theorem vLZ {K:yg} {ta:TA} {σ:St} {H:Hp} {Q:VK} (h:ta σ H fun vs H1=>∃ a b xs ys,vs=[.ref a,.ref b]∧SqL K H1 a xs∧SqL K H1 b ys∧xs.length≤1000∧∀ l ts H',Zl H1 H' l ts xs ys→Q (.ref l) H'):tLZ K ta σ H Q:=h
theorem qcP {X:Cx} {K:yg} {a b:Expr} {ta:TA} {p p2 pos pos2:Pos} (hK:X.K=K) (hc:X.calm=true) (hg:Gl X "list") (hg2:Gl X "zip") (hm:X.mg "list"=none) (hm2:X.mg "zip"=none) (ha:PA X [a,b] ta) (hs:starEach [a,b] X.env=[(false,eval a X.env),(false,eval b X.env)]:=by rfl) (hs2:starEach [b] X.env=[(false,eval b X.env)]:=by rfl)
  (he:starEach [.Call (.Name "zip" p2) [a,b] [] pos2] X.env=[(false,eval (.Call (.Name "zip" p2) [a,b] [] pos2) X.env)]:=by rfl):PE X (.Call (.Name "list" p) [.Call (.Name "zip" p2) [a,b] [] pos2] [] pos) (tLZ K ta):=by
 subst hK
 intro pins s σ H Q I h
 refine Call_ (qaC I hg hm boot_list (PyProof.Rows.callWith_type1 (T:="list") ?_ he rfl))
 rw [he]
 show wpAny _ _ (spliced ((false,eval (.Call (.Name "zip" p2) [a,b] [] pos2) X.env)::[])) _ _ s
 refine Calls.spliced_cons ?_
 refine Call_ (qaC I hg2 hm2 qdd (PyProof.Rows.callWith_type1 (thn (ha pos2 pins s σ H _ I h) fun us s1 ⟨vs,H1,I1,r1,q1⟩=>?_) (by rw [hs,hs2]) (by rw [hs2];rfl)))
 obtain ⟨a,b,xs,ys,e,hq,hq2,hx,q⟩:=q1
 subst e
 cases r1 with
 | cons r rr =>
  cases rr with
  | cons r2 rr =>
   cases rr
   cases r
   cases r2
   obtain ⟨its,rv,pl,_⟩:=I1.list hq
   obtain ⟨its2,rv2,pl2,_⟩:=I1.list hq2
   have lta:a < s1.heap.objs.size:=by obtain ⟨_,e,_⟩:=pl.isList;exact Heap.lt_size e
   have ltb:b < s1.heap.objs.size:=by obtain ⟨_,e,_⟩:=pl2.isList;exact Heap.lt_size e
   have l1:=rv.length
   have l2:=rv2.length
   refine call_zip_2 pl.isList pl2.isList fun h1 hz hTI hTO hi1 hi2 hsz hk=>Calls.spliced_nil ?_
   have la:h1.IsList a its.toArray:=by obtain ⟨o,e,d⟩:=pl.isList;exact ⟨o,hk _ _ e,d⟩
   have lb:h1.IsList b its2.toArray:=by obtain ⟨o,e,d⟩:=pl2.isList;exact ⟨o,hk _ _ e,d⟩
   refine call_list_zip (I1.ok.hd hc) (PySem.W.ktu_apart _ _ _ lta ltb) (by simp only [List.size_toArray];omega) hz hTI ⟨_,_,hTO⟩ hi1 hi2 la lb fun h2 acc c L=>?_
   have L:LE (s1.heap.objs.size + 4) (s1.heap.objs.size + 3) s1.heap.objs.size (s1.heap.objs.size + 1) h1.objs.size (h1.objs.size + 1) its.toArray its2.toArray h1 (min its.toArray.size its2.toArray.size) acc c h2:=L
   have hln:acc.size=min xs.length ys.length:=by rw [L.len,l1,l2,List.size_toArray,List.size_toArray]
   obtain ⟨ts,hts⟩:∃ ts,ts=acc.toList.map refN:=⟨_,rfl⟩
   have tlen:ts.length=min xs.length ys.length:=by rw [hts,ya,Array.length_toList,hln]
   have tj:∀ (j:Nat) t,ts[j]?=some t→acc[j]?=some (.ref t)∧h1.objs.size + 1≤t∧∃ x y,xs[j]?=some x∧ys[j]?=some y∧∃ u v,RelV x u∧RelV y v∧IsPair h2 t u v:=fun j t e=>by
    rw [hts,yd,Array.getElem?_toList] at e
    obtain ⟨v,ev,et⟩:=yn.mp e
    obtain ⟨t',u1,u2,q1,q2,q3,q4,q5⟩:=L.its j v ev
    subst q1
    have et':t'=t:=et
    subst et'
    have hj:j < acc.size:=(Array.getElem?_eq_some_iff.mp ev).1
    obtain ⟨x,hx'⟩:∃ x,xs[j]?=some x:=⟨_,yb (by omega)⟩
    obtain ⟨y,hy'⟩:∃ y,ys[j]?=some y:=⟨_,yb (by omega)⟩
    obtain ⟨a1,ea1,ra1⟩:=rv.get hx'
    obtain ⟨a2,ea2,ra2⟩:=rv2.get hy'
    have b1:a1=u1:=by rw [List.getElem?_toArray,ea1] at q4;cases q4;rfl
    have b2:a2=u2:=by rw [List.getElem?_toArray,ea2] at q5;cases q5;rfl
    subst b1 b2
    exact ⟨ev,q2,x,y,hx',hy',a1,a2,ra1,ra2,q3⟩
   have nd:ts.Nodup:=by
    refine List.pairwise_iff_getElem.mpr fun i j hi hj hij e=>?_
    have e1:=(tj i ts[i] (yb hi)).1
    have e2:=(tj j ts[j] (yb hj)).1
    rw [e] at e1
    exact absurd (L.nd i j _ e1 e2) (Nat.ne_of_lt hij)
   have mem:∀ t∈ts,h1.objs.size + 1≤t:=fun t ht=>by
    obtain ⟨j,e⟩:=List.mem_iff_getElem?.mp ht
    exact (tj j t e).2.1
   obtain ⟨G,g1,g2⟩:=qf5 H1 ts xs ys nd (by omega) (by omega)
   have old:∀ q,q < s1.heap.objs.size→upd G h1.objs.size (.lst (ts.map V.ref)) q=H1 q:=fun q hq=>by
    rw [qh (Nat.ne_of_lt (by omega))]
    exact g2 q fun z=>by have:=mem q z;omega
   have tl:∀ t∈ts,t≠h1.objs.size:=fun t ht=>by have:=mem t ht;exact Nat.ne_of_gt this
   refine ⟨.ref _,_,I1.laidM (t':=s1.toks) (H':=upd G h1.objs.size (.lst (ts.map V.ref))) (fun b u e=>?_) old fun b u hb e=>?_,rfl,q _ ts _ ⟨fun b o e=>?_,I1.hok.fresh (by show (s1.heap.objs.size:Nat)≤h1.objs.size;omega),qc,tlen,fun j t e=>?_⟩⟩
   ·have lb:∀ m:Nat,s1.heap.objs.size≤m→b < m:=fun m hm=>yj (Heap.lt_size e) hm
    exact L.kp b u (lb _ (by omega)) (Nat.ne_of_lt (lb _ (by omega))) (Nat.ne_of_lt (lb _ (by omega))) (Nat.ne_of_lt (lb _ (by omega))) (Nat.ne_of_lt (lb _ (by omega))) (Nat.ne_of_lt (lb _ (by omega))) (hk b u e)
   ·by_cases hl:b=h1.objs.size
    ·subst hl
     rw [qc] at e
     cases e
     refine ⟨by rw [ya,tlen,sizeLine_eq];omega,acc.toList,c,qan (by rw [ya,tlen];exact hln.symm) fun j y u e1 e2=>?_,by rw [Array.toArray_toList];exact L.ls⟩
     rw [yd] at e1
     obtain ⟨t,et,ey⟩:=yn.mp e1
     subst ey
     rw [Array.getElem?_toList,(tj j t et).1] at e2
     cases e2
     rfl
    ·rw [qh hl] at e
     by_cases hm:b∈ts
     ·obtain ⟨j,ej⟩:=List.mem_iff_getElem?.mp hm
      obtain ⟨_,_,x,y,ex,ey,u1,u2,r1,r2,ep⟩:=tj j b ej
      rw [g1 j b x y ej ex ey] at e
      cases e
      exact ⟨by show 2≤sizeLine;decide,[u1,u2],.cons r1 (.cons r2 .nil),⟨_,ep,rfl,_,rfl⟩⟩
     ·rw [g2 b hm,I1.hok.fresh hb] at e
      cases e
   ·rw [old b (Nat.lt_of_not_le fun z=>by rw [I1.hok.fresh z] at e;cases e)]
    exact e
   ·obtain ⟨_,e2,x,y,ex,ey,_⟩:=tj j t e
    refine ⟨I1.hok.fresh (by omega),x,y,ex,ey,?_⟩
    rw [qh (tl t (ye e))]
    exact g1 j t x y e ex ey
theorem Inv.freeze {X:Cx} {pins:List (Addr×Obj)} {σ:St} {H:Hp} {s:Shared} {d:Addr} {kvs:List (Key×V)} {o:Obj} (I:Inv X pins σ H s) (e:H d=some (.dK kvs)) (ho:s.heap.get? d=some o):Inv X pins σ (upd H d (.frz o (.dK kvs))) s:=by
 have nn:∀ b,H b=none→upd H d (.frz o (.dK kvs)) b=none:=fun b hb=>by
  rw [qh (fun z=>by rw [z,e] at hb;cases hb)];exact hb
 have kp:∀ b u,u≠.dK kvs→H b=some u→upd H d (.frz o (.dK kvs)) b=some u:=fun b u hu hb=>by
  rw [qh (fun z=>by rw [z,e] at hb;exact hu (ym hb).symm)];exact hb
 have st:∀ a u,ObjOk X.prog X.w H s.heap a u→ObjOk X.prog X.w (upd H d (.frz o (.dK kvs))) s.heap a u:=fun a u x =>
  x.stay (fun _ _ _ q=>q) (fun b q=>kp b _ (fun z=>by cases z) q) fun b xs q=>kp b _ (fun z=>by cases z) q
 refine ⟨I.ok,I.os,I.bare,⟨I.base.keep,I.base.slot,fun b ob q n hx=>nn b (I.base.free b ob q n hx),I.base.there,fun b xs q=>kp b _ (fun z=>by cases z) (I.base.tups b xs q),fun b ob u q=>kp b _ (fun z=>by cases z) (I.base.frzs b ob u q),fun b ps q=>?_⟩,I.loc,I.cell,nn _ I.free,fun x c q=>nn _ (I.freeC x c q),fun p hp=>?_,fun a u q=>?_,I.len⟩
 ·obtain ⟨more,z⟩:=I.base.tbls b ps q
  exact ⟨more,kp b _ (fun z=>by cases z) z⟩
 ·obtain ⟨h1,h2,h3,h4,h5⟩:=I.pin p hp
  exact ⟨h1,nn _ h2,h3,h4,h5⟩
 ·by_cases ha:a=d
  ·subst ha
   rw [qc] at q
   cases q
   exact ⟨ho,st _ _ (I.hok _ _ e)⟩
  ·rw [qh ha] at q
   exact st _ _ (I.hok _ _ q)
def Itk (d:Addr) (o:Obj) (kvs:List (Key×V)):It:=
 ⟨fun i H=>H d=some (.frz o (.dK kvs))∧i < kvs.length,fun i H x H'=>H'=H∧∃ k v,kvs[i]?=some (k,v)∧x=kV k,fun i H=>H d=some (.frz o (.dK kvs))∧kvs.length=i⟩
theorem zA {α β:Type} {F:α→β→Prop}:∀ {l:List α} {m:List β},Paired F l m→l.length=m.length
 | _,_,.nil=>rfl
 | _,_,.cons _ t=>congrArg (· + 1) (zA t)
theorem qcn {α β:Type} {F:α→β→Prop}:∀ {l:List α} {m:List β},Paired F l m→∀ {i:Nat} {x:α},l[i]?=some x→∃ y,m[i]?=some y∧F x y
 | _,_,.nil,i,x,h=>by simp at h
 | _,_,.cons r t,0,x,h=>by simp at h;subst h;exact ⟨_,rfl,r⟩
 | _,_,.cons r t,i + 1,x,h=>by simp at h;simpa using qcn t h
theorem turn_keys {P:Program} {w:World} {K:yg} {tg:Expr} (d it:Addr) (o:Obj) (kvs:List (Key×V)) {es:Array DictEntry} {ep:Nat} (hd:o.data=.dict es ep):Turn P w K tg (Itk d o kvs) [it] it (fun i h=>h.IsKeyIter it d i kvs.length ep) where
 mem:=by simp
 obj:=fun i h st b hb=>by
  have e:b=it:=by simpa using hb
  subst e
  obtain ⟨o,e,c,d⟩:=st
  exact ⟨o,e,fun v z=>by rw [d] at z;cases z⟩
 keep:=fun i h h' st k=>by
  obtain ⟨o,e,c,d⟩:=st
  exact ⟨o,k it (by simp) o e,c,d⟩
 item:=by
  intro X hP hw hK hc i pins s σ H E I hf st hg
  subst hP hw hK
  obtain ⟨hF,hi⟩:=hg
  obtain ⟨hob,hz,hsy,vs,rv,o',es',ep',ho',hex,hdt,hk,hp,hnd⟩:=I.hok d _ hF
  rw [hob] at ho'
  cases ho'
  rw [hd] at hdt
  cases hdt
  obtain ⟨⟨k,v⟩,hkv⟩:∃ q,kvs[i]?=some q:=⟨_,yb hi⟩
  obtain ⟨⟨k',u⟩,hu,hkk,ru⟩:=qcn rv hkv
  have hkk':k=k':=hkk
  subst hkk'
  obtain ⟨f0,f1,f2,f3,f4,f5⟩:=hf it (by simp)
  rw [zA rv] at st
  refine wpAny_pyNext_dict_item (knd:=jd X.prog X.w) st ⟨o,es,hob,hex,hd,hk,hp,hnd⟩ hu fun key h' hkey st' sb=>?_
  have I1:Inv X pins σ H { s with heap:=h' }:=I.turned (t':=s.toks) (fun b o hb e=>(sb.2 b hb).trans e) f0 f1 f3 f4 f5
  have rk:RelV (kV k) key:=by
   rcases qN hkey with ⟨i,t,rfl,rfl⟩ | ⟨x,t,rfl,rfl⟩
   ·exact ⟨t,rfl⟩
   ·exact ⟨t,rfl⟩
  rw [← zA rv] at st'
  obtain ⟨o2,e2,c2,d2⟩:=id st'
  exact ⟨key,rfl,qev (s:={ s with heap:=h' }) e2 c2 d2 (by decide) ⟨kV k,H,I1,rk,⟨rfl,k,v,hkv,rfl⟩,st',fun b hb=>(hf b hb).1⟩⟩
 done:=by
  intro X hP hw hK hc i pins s σ H E I hf st hg
  subst hP hw hK
  obtain ⟨hF,hi⟩:=hg
  obtain ⟨hob,hz,hsy,vs,rv,o',es',ep',ho',hex,hdt,hk,hp,hnd⟩:=I.hok d _ hF
  rw [hob] at ho'
  cases ho'
  rw [hd] at hdt
  cases hdt
  obtain ⟨f0,f1,f2,f3,f4,f5⟩:=hf it (by simp)
  have hl:=zA rv
  rw [hl] at st
  exact wpAny_pyNext_dict_end (knd:=jd X.prog X.w) (I.ok.hd hc) st ⟨o,es,hob,hex,hd,hk,hp,hnd⟩ (by rw [List.getElem?_eq_none_iff];omega) fun h' eb=>⟨rfl,I.turned (t':=s.toks) (fun b o hb e=>eb b o hb e) f0 f1 f3 f4 f5⟩
 self:=fun _ _ _ _ _ st h=>wpAny_pyIter_keyiter st h
def qhb (te:TE):TI:=fun σ H R=>te σ H fun v H1=>∃ a kvs,v=.ref a∧H1 a=some (.dK kvs)∧∀ o,R (Itk a o kvs) (upd H1 a (.frz o (.dK kvs)))
theorem pi_dct {X:Cx} {tg e:Expr} {te:TE} (he:PE X e te):PI X tg e (qhb te):=by
 intro pins s σ H R I h
 refine thn (he pins s σ H _ I h) fun v s1 ⟨y,H1,I1,r1,q1⟩=>?_
 obtain ⟨a,kvs,rfl,ha,q⟩:=q1
 cases r1
 obtain ⟨hz,hsy,vs,rv,o,es,ep,ho,hex,hdt,hk,hp,hnd⟩:=I1.hok a _ ha
 have hl:=zA rv
 have I2:=I1.freeze ha ho
 refine wpAny_pyIter_dict (knd:=jd X.prog X.w) hsy ⟨o,es,ho,hex,hdt,hk,hp,hnd⟩ ?_
 refine ⟨s1.heap.objs.size,[s1.heap.objs.size],_,_,_,rfl,I2.kept (t':=s1.toks) fun b o e=>Heap.get?_push_of_some _ e,turn_keys a _ o kvs hdt,⟨_,Heap.get?_push_size _ rfl,rfl,by rw [hl];rfl⟩,fun b hb=>?_,q o⟩
 have e:b=s1.heap.objs.size:=by simpa using hb
 subst e
 exact I2.fpOk (yh _) (I2.hok.fresh (yh _))
theorem viDct {te:TE} {σ:St} {H:Hp} {R:It→Hp→Prop} (h:te σ H fun v H1=>∃ a kvs,v=.ref a∧H1 a=some (.dK kvs)∧∀ o,R (Itk a o kvs) (upd H1 a (.frz o (.dK kvs)))):qhb te σ H R:=h
theorem for_keys {d:Addr} {o:Obj} {kvs:List (Key×V)} {g:TG} {tb:TS} {D:Ends} {σ:St} {H:Hp} (Pv:Nat→St→Hp→Prop) (h0:Pv 0 σ H) (hl:∀ i σ H,i≤kvs.length→Pv i σ H→H d=some (.frz o (.dK kvs)))
  (hs:∀ i k v σ H,kvs[i]?=some (k,v)→Pv i σ H→g (kV k) σ H fun σ2 H2=>tb { D with nx:=Pv (i + 1),ct:=Pv (i + 1),bk:=D.nx } σ2 H2) (hd:∀ σ H,Pv kvs.length σ H→D.nx σ H) :
  ∃ W:Nat→Nat→St→Hp→Prop,(∃ m,W 0 m σ H)∧∀ i m σ H,W i m σ H →
   ((Itk d o kvs).stop i H∧D.nx σ H)∨((Itk d o kvs).go i H∧∃ N:St→Hp→Prop,(∀ σ' H',N σ' H'→∃ m',m' < m∧W (i + 1) m' σ' H')∧∀ x H',(Itk d o kvs).yld i H x H'→g x σ H' fun σ2 H2=>tb { D with nx:=N,ct:=N,bk:=D.nx } σ2 H2):=by
 refine ⟨fun i m σ H=>m=kvs.length - i∧i≤kvs.length∧Pv i σ H,⟨kvs.length,by simp,Nat.zero_le _,h0⟩,?_⟩
 rintro i m σ H ⟨rfl,hi,p⟩
 have q:=hl i σ H hi p
 by_cases hlt:i < kvs.length
 ·refine .inr ⟨⟨q,hlt⟩,Pv (i + 1),fun σ' H' p'=>⟨kvs.length - (i + 1),by omega,rfl,hlt,p'⟩,fun x H' y=>?_⟩
  obtain ⟨e,k,v,hkv,rfl⟩:=y
  subst e
  exact hs i k v σ _ hkv p
 ·have e:i=kvs.length:=by omega
  subst e
  exact .inl ⟨⟨q,rfl⟩,hd σ H p⟩
end L2
namespace K23
open PySem L2 PyProof.Rows
theorem Sr (H:Hp):L2.Same H H:=L2.Same.refl H
theorem qah {k:Nat} {A:Around} (hr:Room k A):A.units + 100 < cLine:=by have:=hr.un;omega
theorem hmR {k j:Nat} {A:Around} (hr:Room k A) (h:j≤k:=by decide):Room j A:=hr.mono h
def top (i:Nat):Stmt:=PySem.Challenge.pw_onceroad_k23_rows_turned.main.body.getD i (.Pass ⟨0,0,0,0⟩)
abbrev qO:Stmt:=jo (top 2) 0
theorem sc_OnceError_init:FnScope ["self", "text"] ["self", "text"] (qe qO):=fS
abbrev jr:Stmt:=jo (top 3) 0
theorem sc_NoName_init:FnScope ["self", "found"] ["self", "found"] (qe jr):=fS
abbrev jA:Stmt:=jo (top 4) 0
theorem sc_Twice_init:FnScope ["self", "name"] ["self", "name"] (qe jA):=fS
abbrev jg:Stmt:=jo (top 5) 0
theorem sc_NoPlace_init:FnScope ["self", "found"] ["self", "found"] (qe jg):=fS
abbrev jB:Stmt:=jo (top 6) 0
theorem sc_NoTie_init:FnScope ["self", "found"] ["self", "found"] (qe jB):=fS
abbrev jh:Stmt:=jo (top 7) 0
theorem sc_TooMany_init:FnScope ["self", "many"] ["self", "many"] (qe jh):=fS
abbrev ji:Stmt:=jo (top 8) 0
theorem sc_NoPairs_init:FnScope ["self", "found"] ["self", "found"] (qe ji):=fS
abbrev jC:Stmt:=jo (top 9) 0
theorem sc_NoRow_init:FnScope ["self", "found"] ["self", "found"] (qe jC):=fS
local macro_rules | `(tactic| walk_at "w")=>`(tactic| first
 | with_reducible refine vSeq ?_ | with_reducible refine vAsg ?_ | with_reducible refine vAsgS ?_ | with_reducible refine vIfS ?_ | with_reducible refine vRet ?_ | with_reducible refine vNext ?_ | with_reducible refine vC ?_
 | ((with_reducible refine' vVar ?hv ?_);(case hv=>rfl)) | with_reducible refine vOp ?_ | with_reducible refine vChain ?_ | with_reducible refine vNil ?_ | with_reducible refine vCons ?_ | with_reducible refine vCB ?_ | with_reducible refine vCall ?_
 | with_reducible refine vLst ?_ | with_reducible refine vTup ?_ | with_reducible refine vTest ?_ | with_reducible refine vB ?_ | with_reducible refine vNot ?_ | with_reducible refine vAnd ?_ | with_reducible refine vOr ?_
 | with_reducible refine vAndV ?_ | with_reducible refine vOrV ?_ | with_reducible refine vNotV ?_ | with_reducible refine vYes ?_ | with_reducible refine vLeI ?_ | with_reducible refine vLeS ?_ | with_reducible refine vIsB ?_ | with_reducible refine vAddI ?_ | with_reducible refine vSl ?_ | with_reducible refine vNoPart ?_ | with_reducible refine vPart ?_ | with_reducible refine vExI ?_ | with_reducible refine vBM ?_ | with_reducible refine vBM0 ?_ | with_reducible refine vComp ?_ | with_reducible refine vFor ?_ | with_reducible refine vRng1 ?_ | with_reducible refine vAny ?_ | with_reducible refine vGN ?_ | with_reducible refine vI0 ?_ | with_reducible refine vEqI ?_ | with_reducible refine vEqB ?_ | with_reducible refine vEx ?_ | with_reducible refine vDrop ?_ | with_reducible refine vRetN ?_ | with_reducible refine vFldU ?_ | with_reducible refine vSFldU ?_ | with_reducible refine vXMake ?_ | with_reducible refine vMake ?_ | with_reducible refine vMeth ?_ | with_reducible refine vVinit ?_ | with_reducible refine vCallS ?_ | with_reducible refine vRaise ?_ | with_reducible refine vMethS ?_ | with_reducible refine vMakeS ?_ | with_reducible refine vUn ?_ | with_reducible refine vIf ?_ | with_reducible refine vRev ?_ | with_reducible refine vEnum ?_ | with_reducible refine vDGet2 ?_ | with_reducible refine vStep ?_)
local macro_rules | `(tactic| walk_at "v")=>`(tactic| repeat walk_at "w")
local macro_rules | `(tactic| ext)=>`(tactic| walk_at "v")
def qa3 (i:Nat):Str:=if i=1 then "name" else if i=4 then "many" else "found"
structure Txt (K:W.Frag) (mg:Str→Option Value) (cc:Nat→Addr) (cw:Addr):Prop where
 b_len:mg "len"=none
 b_int:mg "int"=none
 b_enumerate:mg "enumerate"=none
 b_all:mg "all"=none
 b_max:mg "max"=none
 b_min:mg "min"=none
 b_isinstance:mg "isinstance"=none
 b_bool:mg "bool"=none
 b_str:mg "str"=none
 b_range:mg "range"=none
 b_list:mg "list"=none
 b_tuple:mg "tuple"=none
 b_ValueError:mg "ValueError"=none
 g_LONGEST_NAME:∃ tk,mg "LONGEST_NAME"=some (.int 6 tk)
 g_MOST_PLACES:∃ tk,mg "MOST_PLACES"=some (.int 14 tk)
 g_MOST_TIES:∃ tk,mg "MOST_TIES"=some (.int 30 tk)
 m_NoName:mg "NoName"=some (.ref (cc 0))
 m_Twice:mg "Twice"=some (.ref (cc 1))
 m_NoPlace:mg "NoPlace"=some (.ref (cc 2))
 m_NoTie:mg "NoTie"=some (.ref (cc 3))
 m_TooMany:mg "TooMany"=some (.ref (cc 4))
 m_NoPairs:mg "NoPairs"=some (.ref (cc 5))
 m_NoRow:mg "NoRow"=some (.ref (cc 6))
 m_OnceError:mg "OnceError"=some (.ref (cc 7))
 vinit:VInit K
 xat:∀ i,i < 7 + 1→XAt K (cc i)
 na:∀ i,i < 7→NoAttr K (cc i) (qa3 i)
 kit:∀ i j,i < 7→j < 7→W.kitOne K (.ref (cc i)) (.ref (cc j))=some (decide (i=j))
 kitV:∀ i,i < 7 + 1→W.kitOne K (.ref (cc i)) (.type "ValueError")=some true
 mroO:∀ i,i < 7→W.mroIn K (cc i) (.ref (cc 7))=some true
 wcl:Cls K cw
 wn:NoAttr K cw "numbers"
 wo:NoAttr K cw "order"
 wr:NoAttr K cw "near"
 m_Web:mg "Web"=some (.ref cw)
 b_repr:mg "repr"=none
 smod:∃ o,K.lookup sysModules=some o
 b_zip:mg "zip"=none
def qaN (K:W.Frag):Sp:=fun vs H Q _=>∃ (e C:Addr) (y:V),vs=[.ref e,y]∧H e=some (XN e C none)∧XAt K C∧Q .non H
def spX (C:Addr) (fl:Str):Sp:=fun vs H Q _=>∃ (e:Addr) (v:V),vs=[.ref e,v]∧H e=some (XN e C none)∧∀ dx,H dx=none→Q .non (upd (upd H dx (.xd [(fl,v)])) e (XN e C (some dx)))
section
variable {P:Program} {w:World} {K:W.Frag} {mg:Str→Option Value} {base:Heap} {cc:Nat→Addr} {cw:Addr} {f:Addr} {fd:FuncData}
theorem ok_once (F:Fun K "__init__" "OnceError.__init__" qO f fd) (T:Txt K mg cc cw):FnOk P w K mg base CX0 1 f fd ["self", "text"] (qaN K):=by
 refine F.ok sc_OnceError_init (fun vs H Q E h=>?_) fun cdv A outer s H vs Q E hr h=>?_
 ·obtain ⟨e,C,y,rfl,_⟩:=h;rfl
 ·obtain ⟨e,C,y,rfl,he,c,q⟩:=h
  refine ⟨_,(qf (qU (k_vinit (K:=K) rfl T.vinit rfl T.b_ValueError boot_ValueError (qa (pv 0) (qa (pv 1) qd))))),?_⟩
  ext
  exact ⟨e,C,y,rfl,he,c,q⟩
theorem ok_NoName (F:Fun K "__init__" "NoName.__init__" jr f fd) (T:Txt K mg cc cw) (D_OnceError_init:CMethOk P w K mg base CX0 1 (cc 7) "OnceError" "__init__" ["self", "text"] (qaN K)) :
  FnOk P w K mg base CX0 2 f fd ["self", "found"] (spX (cc 0) (qa3 0)):=by
 refine F.ok sc_NoName_init (fun vs H Q E h=>?_) fun cdv A outer s H vs Q E hr h=>?_
 ·obtain ⟨e,v,rfl,_⟩:=h;rfl
 ·obtain ⟨e,v,rfl,he,q⟩:=h
  refine ⟨_,(qb (qU (zR D_OnceError_init (hmR hr) (qa (pv 0) (qa j8 qd))))
 (qf (zw (K:=K) rfl (pv 0) (pv 1) rfl))),?_⟩
  ext
  refine ⟨e,_,_,rfl,he,T.xat 0 (by decide),?_⟩
  ext
  exact .inr ⟨e,_,rfl,he,T.xat 0 (by decide),T.na 0 (by decide),q⟩
theorem ok_Twice (F:Fun K "__init__" "Twice.__init__" jA f fd) (T:Txt K mg cc cw) (D_OnceError_init:CMethOk P w K mg base CX0 1 (cc 7) "OnceError" "__init__" ["self", "text"] (qaN K)) :
  FnOk P w K mg base CX0 2 f fd ["self", "name"] (spX (cc 1) (qa3 1)):=by
 refine F.ok sc_Twice_init (fun vs H Q E h=>?_) fun cdv A outer s H vs Q E hr h=>?_
 ·obtain ⟨e,v,rfl,_⟩:=h;rfl
 ·obtain ⟨e,v,rfl,he,q⟩:=h
  refine ⟨_,(qb (qU (zR D_OnceError_init (hmR hr) (qa (pv 0) (qa j8 qd))))
 (qf (zw (K:=K) rfl (pv 0) (pv 1) rfl))),?_⟩
  ext
  refine ⟨e,_,_,rfl,he,T.xat 1 (by decide),?_⟩
  ext
  exact .inr ⟨e,_,rfl,he,T.xat 1 (by decide),T.na 1 (by decide),q⟩
theorem ok_NoPlace (F:Fun K "__init__" "NoPlace.__init__" jg f fd) (T:Txt K mg cc cw) (D_OnceError_init:CMethOk P w K mg base CX0 1 (cc 7) "OnceError" "__init__" ["self", "text"] (qaN K)) :
  FnOk P w K mg base CX0 2 f fd ["self", "found"] (spX (cc 2) (qa3 2)):=by
 refine F.ok sc_NoPlace_init (fun vs H Q E h=>?_) fun cdv A outer s H vs Q E hr h=>?_
 ·obtain ⟨e,v,rfl,_⟩:=h;rfl
 ·obtain ⟨e,v,rfl,he,q⟩:=h
  refine ⟨_,(qb (qU (zR D_OnceError_init (hmR hr) (qa (pv 0) (qa j8 qd))))
 (qf (zw (K:=K) rfl (pv 0) (pv 1) rfl))),?_⟩
  ext
  refine ⟨e,_,_,rfl,he,T.xat 2 (by decide),?_⟩
  ext
  exact .inr ⟨e,_,rfl,he,T.xat 2 (by decide),T.na 2 (by decide),q⟩
theorem ok_NoTie (F:Fun K "__init__" "NoTie.__init__" jB f fd) (T:Txt K mg cc cw) (D_OnceError_init:CMethOk P w K mg base CX0 1 (cc 7) "OnceError" "__init__" ["self", "text"] (qaN K)) :
  FnOk P w K mg base CX0 2 f fd ["self", "found"] (spX (cc 3) (qa3 3)):=by
 refine F.ok sc_NoTie_init (fun vs H Q E h=>?_) fun cdv A outer s H vs Q E hr h=>?_
 ·obtain ⟨e,v,rfl,_⟩:=h;rfl
 ·obtain ⟨e,v,rfl,he,q⟩:=h
  refine ⟨_,(qb (qU (zR D_OnceError_init (hmR hr) (qa (pv 0) (qa j8 qd))))
 (qf (zw (K:=K) rfl (pv 0) (pv 1) rfl))),?_⟩
  ext
  refine ⟨e,_,_,rfl,he,T.xat 3 (by decide),?_⟩
  ext
  exact .inr ⟨e,_,rfl,he,T.xat 3 (by decide),T.na 3 (by decide),q⟩
theorem ok_TooMany (F:Fun K "__init__" "TooMany.__init__" jh f fd) (T:Txt K mg cc cw) (D_OnceError_init:CMethOk P w K mg base CX0 1 (cc 7) "OnceError" "__init__" ["self", "text"] (qaN K)) :
  FnOk P w K mg base CX0 2 f fd ["self", "many"] (spX (cc 4) (qa3 4)):=by
 refine F.ok sc_TooMany_init (fun vs H Q E h=>?_) fun cdv A outer s H vs Q E hr h=>?_
 ·obtain ⟨e,v,rfl,_⟩:=h;rfl
 ·obtain ⟨e,v,rfl,he,q⟩:=h
  refine ⟨_,(qb (qU (zR D_OnceError_init (hmR hr) (qa (pv 0) (qa j8 qd))))
 (qf (zw (K:=K) rfl (pv 0) (pv 1) rfl))),?_⟩
  ext
  refine ⟨e,_,_,rfl,he,T.xat 4 (by decide),?_⟩
  ext
  exact .inr ⟨e,_,rfl,he,T.xat 4 (by decide),T.na 4 (by decide),q⟩
theorem ok_NoPairs (F:Fun K "__init__" "NoPairs.__init__" ji f fd) (T:Txt K mg cc cw) (D_OnceError_init:CMethOk P w K mg base CX0 1 (cc 7) "OnceError" "__init__" ["self", "text"] (qaN K)) :
  FnOk P w K mg base CX0 2 f fd ["self", "found"] (spX (cc 5) (qa3 5)):=by
 refine F.ok sc_NoPairs_init (fun vs H Q E h=>?_) fun cdv A outer s H vs Q E hr h=>?_
 ·obtain ⟨e,v,rfl,_⟩:=h;rfl
 ·obtain ⟨e,v,rfl,he,q⟩:=h
  refine ⟨_,(qb (qU (zR D_OnceError_init (hmR hr) (qa (pv 0) (qa j8 qd))))
 (qf (zw (K:=K) rfl (pv 0) (pv 1) rfl))),?_⟩
  ext
  refine ⟨e,_,_,rfl,he,T.xat 5 (by decide),?_⟩
  ext
  exact .inr ⟨e,_,rfl,he,T.xat 5 (by decide),T.na 5 (by decide),q⟩
theorem ok_NoRow (F:Fun K "__init__" "NoRow.__init__" jC f fd) (T:Txt K mg cc cw) (D_OnceError_init:CMethOk P w K mg base CX0 1 (cc 7) "OnceError" "__init__" ["self", "text"] (qaN K)) :
  FnOk P w K mg base CX0 2 f fd ["self", "found"] (spX (cc 6) (qa3 6)):=by
 refine F.ok sc_NoRow_init (fun vs H Q E h=>?_) fun cdv A outer s H vs Q E hr h=>?_
 ·obtain ⟨e,v,rfl,_⟩:=h;rfl
 ·obtain ⟨e,v,rfl,he,q⟩:=h
  refine ⟨_,(qb (qU (zR D_OnceError_init (hmR hr) (qa (pv 0) (qa j8 qd))))
 (qf (zw (K:=K) rfl (pv 0) (pv 1) rfl))),?_⟩
  ext
  refine ⟨e,_,_,rfl,he,T.xat 6 (by decide),?_⟩
  ext
  exact .inr ⟨e,_,rfl,he,T.xat 6 (by decide),T.na 6 (by decide),q⟩
abbrev zm:Stmt:=top 21
theorem sc_is_name:FnScope ["thing"] ["thing"] (qe zm):=fS
abbrev zB:Stmt:=top 26
theorem sc_has_bit:FnScope ["bits", "number"] ["bits", "number"] (qe zB):=fS
abbrev za:Stmt:=top 27
theorem sc_is_place:FnScope ["numbers", "thing"] ["numbers", "thing"] (qe za):=fS
abbrev qP:Stmt:=top 28
theorem sc_are_two_places:FnScope ["numbers", "thing", "both"] ["numbers", "thing"] (qe qP):=fS
theorem qX {l:Addr} {H H1:Hp} {o:HO} (a:L2.Same H H1) (hl:H1 l=none):L2.Same H (upd H1 l o):=fun c u e=>by
 have q:=a c u e
 rw [qh (qE q hl)]
 exact q
theorem qbG {l:Addr} {H H1:Hp} {o:HO} (a:L2.Same H H1) (hl:H l=none):L2.Same H (upd H1 l o):=fun c u e=>by
 rw [qh (qE e hl)]
 exact a c u e
def sg (c:Nat):Bool:=if (!decide (([c]:List Nat) < ("a":Str).cps.toList))=true then !decide (("z":Str).cps.toList < [c]) else false
def j3 (x:Str):Bool:=if 1≤x.length∧x.length≤6 then x.cps.toList.all sg else false
def qat:V→Bool
 | .str x=>j3 x
 | _=>false
def qH:V→Str
 | .str x=>x
 | _=>""
theorem qS {x:V} (h:qat x=true):x=.str (qH x)∧j3 (qH x)=true∧(qH x).length≤6:=by
 cases x with
 | str y =>
  refine ⟨rfl,h,?_⟩
  have h':j3 y=true:=h
  unfold j3 at h'
  split at h'
  ·rename_i z;exact z.2
  ·cases h'
 | _=>cases h
inductive Th (p:Addr) (H:Hp):Nat→V→Prop
 | flat {n:Nat} {v:V} (f:zZ v=true) (l:∀ s,v=.str s→s.length≤100000):Th p H n v
 | lst {n:Nat} {a:Addr} {xs:List V} (e:H a=some (.lst xs)) (ne:a≠p) (h:∀ x∈xs,Th p H n x) (l:xs.length≤1000):Th p H (n + 1) (.ref a)
 | tup {n:Nat} {a:Addr} {xs:List V} (e:H a=some (.tup xs)) (ne:a≠p) (h:∀ x∈xs,Th p H n x) (l:xs.length≤1000):Th p H (n + 1) (.ref a)
 | dct {n:Nat} {a:Addr} {kvs:List (Key×V)} (e:H a=some (.dK kvs)) (ne:a≠p):Th p H n (.ref a)
theorem Th.mono {p:Addr} {H:Hp}:∀ {n:Nat} {v:V},Th p H n v→Th p H (n + 1) v
 | _,_,.flat f l=>.flat f l
 | _,_,.lst e ne h l=>.lst e ne (fun x hx=>(h x hx).mono) l
 | _,_,.tup e ne h l=>.tup e ne (fun x hx=>(h x hx).mono) l
 | _,_,.dct e ne=>.dct e ne
theorem Th.keep {p:Addr} {H H':Hp} (k:∀ b o,b≠p→H b=some o→H' b=some o):∀ {n:Nat} {v:V},Th p H n v→Th p H' n v
 | _,_,.flat f l=>.flat f l
 | _,_,.lst e ne h l=>.lst (k _ _ ne e) ne (fun x hx=>(h x hx).keep k) l
 | _,_,.tup e ne h l=>.tup (k _ _ ne e) ne (fun x hx=>(h x hx).keep k) l
 | _,_,.dct e ne=>.dct (k _ _ ne e) ne
theorem Th.same {p:Addr} {H H':Hp} {n:Nat} {v:V} (h:Th p H n v) (s:L2.Same H H'):Th p H' n v:=h.keep fun b o _ e=>s b o e
inductive Arg (p:Addr) (H:Hp):V→Option (List V)→Prop
 | lst {a:Addr} {xs:List V} (e:H a=some (.lst xs)) (ne:a≠p) (h:∀ x∈xs,Th p H 2 x) (l:xs.length≤1000):Arg p H (.ref a) (some xs)
 | tup {a:Addr} {xs:List V} (e:H a=some (.tup xs)) (ne:a≠p) (h:∀ x∈xs,Th p H 2 x) (l:xs.length≤1000):Arg p H (.ref a) (some xs)
 | flat {v:V} (f:zZ v=true) (l:∀ s,v=.str s→s.length≤100000):Arg p H v none
 | dct {a:Addr} {kvs:List (Key×V)} (e:H a=some (.dK kvs)) (ne:a≠p):Arg p H (.ref a) none
theorem Arg.keep {p:Addr} {H H':Hp} (k:∀ b o,b≠p→H b=some o→H' b=some o) {v:V} {o:Option (List V)} (h:Arg p H v o):Arg p H' v o:=by
 cases h with
 | lst e ne h l=>exact .lst (k _ _ ne e) ne (fun x hx=>(h x hx).keep k) l
 | tup e ne h l=>exact .tup (k _ _ ne e) ne (fun x hx=>(h x hx).keep k) l
 | flat f l=>exact .flat f l
 | dct e ne=>exact .dct (k _ _ ne e) ne
theorem Arg.same {p:Addr} {H H':Hp} {v:V} {o:Option (List V)} (h:Arg p H v o) (s:L2.Same H H'):Arg p H' v o:=h.keep fun b o _ e=>s b o e
def isB:V→Bool
 | .bl _=>true
 | _=>false
theorem Th.ty {K:W.Frag} {p:Addr} {H:Hp} {n:Nat} {v:V} (h:Th p H n v):∃ t∈["NoneType", "bool", "int", "str", "list", "tuple", "dict"],TyOf K H v (.type t)∧(qcL t "str"=true→∃ x,v=.str x∧x.length≤100000)∧(qcL t "str"=false→qat v=false) ∧
  (qcL t "tuple"=true→∃ a xs,v=.ref a∧H a=some (.tup xs)∧xs.length≤1000∧∀ x∈xs,Th p H n x)∧(qcL t "tuple"=false→∀ a xs,v=.ref a→H a≠some (.tup xs))∧qcL t "bool"=isB v:=by
 have no:∀ {P:Prop} {a b:String},qcL a b=false→qcL a b=true→P:=fun h1 h2=>by rw [h1] at h2;cases h2
 have yes:∀ {P:Prop} {a b:String},qcL a b=true→qcL a b=false→P:=fun h1 h2=>by rw [h1] at h2;cases h2
 cases h with
 | flat f l =>
  cases v with
  | non=>exact ⟨_,by simp,.non,no (by decide),fun _=>rfl,no (by decide),fun _ _ _ e=>by (cases e),rfl⟩
  | bl x=>exact ⟨_,by simp,.bl x,no (by decide),fun _=>rfl,no (by decide),fun _ _ _ e=>by (cases e),rfl⟩
  | int x=>exact ⟨_,by simp,.int x,no (by decide),fun _=>rfl,no (by decide),fun _ _ _ e=>by (cases e),rfl⟩
  | str x=>exact ⟨_,by simp,.str x,fun _=>⟨x,rfl,l x rfl⟩,yes (by decide),no (by decide),fun _ _ _ e=>by (cases e),rfl⟩
  | _=>cases f
 | lst e ne h l=>exact ⟨_,by simp,.lst e,no (by decide),fun _=>rfl,no (by decide),fun _ _ _ z=>by (cases z;rw [e];intro y;cases y),rfl⟩
 | tup e ne h l=>exact ⟨_,by simp,.tup e,no (by decide),fun _=>rfl,fun _=>⟨_,_,rfl,e,l,fun x hx=>(h x hx).mono⟩,yes (by decide),rfl⟩
 | dct e ne=>exact ⟨_,by simp,.dK e,no (by decide),fun _=>rfl,no (by decide),fun _ _ _ z=>by (cases z;rw [e];intro y;cases y),rfl⟩
def qd7:Sp:=fun vs H Q _=>∃ (p:Addr) (n:Nat) (v:V),vs=[v]∧Th p H n v∧∀ H',L2.Same H H'→Q (.bl (qat v)) H'
theorem ok_name (F:Fun K "is_name" "is_name" zm f fd) (T:Txt K mg cc cw):FnOk P w K mg base CX0 1 f fd ["thing"] qd7:=by
 refine F.ok sc_is_name (fun vs H Q E h=>?_) fun cdv A outer s H vs Q E hr h=>?_
 ·obtain ⟨p,n,v,rfl,_⟩:=h;rfl
 ·obtain ⟨p,n,v,rfl,hv,q⟩:=h
  refine ⟨_,(qb (qL (PW.pt (qaD (qZ (qK (qm (qax (K:=K) rfl) rfl T.b_isinstance boot_isinstance (qa (pv 0) (qa (j6 (v:=.ty "str") rfl T.b_str boot_str rfl) qd))))) (qau (qZ (pt_chain qgn qgn qg (qm (jX (K:=K) rfl) rfl T.b_len boot_len (qa (pv 0) qd)) (qbO rfl T.g_LONGEST_NAME)))))) (qf (qp jp)) qq)
 (qf (qp (qm (qft (K:=K) rfl rfl) rfl T.b_all boot_all (qa (qae (sc:=qe zm) (XN:=["thing"]) ["sign"] 1 [] rfl rfl rfl (by decide +kernel) rfl (by decide +kernel)
  (jK (K:=K) rfl (pv 0)) (fun _ _ _ _=>(qw (i:=0) (show (["sign"]:List Str).Nodup by decide +kernel) rfl (Or.inl rfl))) zO
  (fun _ _ _ _=>zP)
  (fun _ _ _ _=>(pe_chain qgn qgn j8 (pv 0) j8))) qd))))),?_⟩
  obtain ⟨t,ht,ty,hs,hn,_,_,_⟩:=hv.ty (K:=K)
  ext
  refine qaL (.inl ty) rfl (j7 K t ht "str" (by simp)) ?_
  ext
  refine qI (fun h=>?_) fun h=>?_
  ·ext
   have z:=q H (Sr H)
   rw [hn (by simpa using h)] at z
   exact z
  ·obtain ⟨x,rfl,hx⟩:=hs (by simpa using h)
   ext
   refine qfY (yi hx (by decide)) ?_
   ext
   have q1:=q
   simp only [qat,j3] at q1
   have hneg:¬ (1≤x.length∧x.length≤6)→∀ H',L2.Same H H'→Q (.bl false) H':=fun hc H' hs=>by
    have z:=q1 H' hs
    rw [if_neg hc] at z
    exact z
   refine qI (fun h1=>?_) fun h1=>?_
   ·ext
    refine qI (fun h2=>?_) fun h2=>?_
    ·ext
     refine hneg (fun h=>?_) H (Sr H)
     simp only [Bool.not_eq_true',decide_eq_false_iff_not] at h2
     omega
    ·ext
     have hin:1≤x.length∧x.length≤6:=by
      have a1:=yk h1
      simp only [Bool.not_eq_true',decide_eq_false_iff_not,Classical.not_not] at h2
      omega
     rw [if_pos hin] at q1
     refine comp_str (fun i ys H'=>H'=H∧ys=((x.cps.toList.take i).map sg).map V.bl) ⟨rfl,by simp⟩ (fun i c ys H' hc hp=>?_) fun ys H' hp=>?_
     ·obtain ⟨rfl,rfl⟩:=hp
      ext
      refine j9 ?_
      ext
      have hl:(List.map V.bl (List.map sg (List.take i x.cps.toList))).length < sizeLine:=by
       rw [ya,ya,List.length_take]
       exact qk (yi (Nat.min_le_right _ _) (by simpa [Str.length] using (show x.length≤1000 by omega)))
      have key:∀ b,b=sg c→(List.map V.bl (List.map sg (List.take i x.cps.toList)))++[V.bl b]=List.map V.bl (List.map sg (List.take (i + 1) x.cps.toList)):=by
       intro b hb
       have e':x.cps.toList[i]?=some c:=by simpa using hc
       rw [hb,List.take_add_one,e']
       simp
      refine qI (fun h3=>?_) fun h3=>?_
      ·ext
       exact ⟨hl,rfl,key _ (by unfold sg;rw [if_pos h3])⟩
      ·exact ⟨hl,rfl,key _ (by unfold sg;rw [if_neg h3])⟩
     ·obtain ⟨rfl,rfl⟩:=hp
      have ht:x.cps.toList.take x.cps.size=x.cps.toList:=by rw [← Array.length_toList,List.take_length]
      rw [ht]
      refine ⟨?_,fun l hl=>?_⟩
      ·rw [ya,ya]
       exact Nat.le_of_lt (qk (by simpa [Str.length] using (show x.length≤1000 by omega)))
      ·ext
       refine ⟨l,x.cps.toList.map sg,rfl,SqL.of qc,?_⟩
       have z:=q1 _ (qX (Sr H') (o:=.lst ((x.cps.toList.map sg).map V.bl)) hl)
       rw [List.all_map]
       exact z
   ·ext
    exact hneg (fun h=>h1 (decide_eq_true (by omega))) H (Sr H)
def qeB:Sp:=fun vs H Q _=>∃ b n:Int,vs=[.int b,.int n]∧0≤n∧Q (.bl (decide (Builtin.bitAnd (b / 2 ^ n.toNat) 1=1))) H
theorem ok_bit (F:Fun K "has_bit" "has_bit" zB f fd):FnOk P w K mg base CX0 1 f fd ["bits", "number"] qeB:=by
 refine F.ok sc_has_bit (fun vs H Q E h=>?_) fun cdv A outer s H vs Q E hr h=>?_
 ·obtain ⟨b,n,rfl,_⟩:=h;rfl
 ·obtain ⟨b,n,rfl,hn,q⟩:=h
  have hu:=qah hr
  refine ⟨_,(qf (qp (qV (qaz (K:=K) rfl hu) (qB op_and (qB op_shr (pv 0) (pv 1)) qg) qg (qA _)))),?_⟩
  ext
  refine vI hn ?_
  ext
  refine .inl (.inl (.inl ⟨rfl,rfl,?_⟩))
  exact q
def qaO:List Str→Nat→List (Key×V)
 | [],_=>[]
 | s::r,i=>(.inr s,.int i)::qaO r (i + 1)
theorem qco (y:Str):∀ (ss:List Str) (i:Nat),qaO (ss++[y]) i=qaO ss i++[(.inr y,.int (i + ss.length:Nat))]
 | [],i=>rfl
 | s::r,i=>by
  show (_::qaO (r++[y]) (i + 1))=_::(qaO r (i + 1)++_)
  rw [qco y r (i + 1)]
  have:i + 1 + r.length=i + (s::r).length:=by simp;omega
  rw [this]
theorem zS:∀ (ss:List Str) (i:Nat),(qaO ss i).length=ss.length
 | [],_=>rfl
 | _::r,i=>congrArg (· + 1) (zS r (i + 1))
theorem qbm {y:Str}:∀ {ss:List Str} {i:Nat},y∉ss→zy (qaO ss i) (.inr y:Key)=none
 | [],_,_=>rfl
 | s::r,i,h=>by
  have h1:¬ s=y:=fun e=>h (by rw [e];exact List.mem_cons_self)
  show zy ((.inr s,V.int i)::qaO r (i + 1)) _=none
  rw [qY (p:=((.inr s:Key),V.int i)) (fun e=>h1 (Sum.inr.inj e))]
  exact qbm fun m=>h (List.mem_cons_of_mem _ m)
theorem zn {y:Str}:∀ {ss:List Str} {i:Nat},y∈ss→∃ j,j < ss.length∧ss[j]?=some y∧zy (qaO ss i) (.inr y:Key)=some (.int (i + j:Nat))
 | [],_,h=>by cases h
 | s::r,i,h=>by
  by_cases e:s=y
  ·subst e
   exact ⟨0,by simp,rfl,jk (p:=((.inr s:Key),V.int i)) rfl⟩
  ·rcases List.mem_cons.mp h with z | z
   ·exact absurd z.symm e
   ·obtain ⟨j,h1,h2,h3⟩:=zn (i:=i + 1) z
    refine ⟨j + 1,by simp;omega,by simpa using h2,?_⟩
    show zy ((.inr s,V.int i)::qaO r (i + 1)) _=_
    rw [qY (p:=((.inr s:Key),V.int i)) (fun e'=>e (Sum.inr.inj e')),h3]
    have:i + 1 + j=i + (j + 1):=by omega
    rw [this]
theorem qbn (y:Str) (ss:List Str) (i:Nat):(zy (qaO ss i) (.inr y:Key)).isSome=decide (y∈ss):=by
 by_cases h:y∈ss
 ·obtain ⟨j,_,_,e⟩:=zn (i:=i) h
  rw [e,decide_eq_true h];rfl
 ·rw [qbm h,yl h];rfl
def qF (ss:List Str) (v:V):Bool:=if qat v=true then decide (qH v∈ss) else false
def qcQ:Sp:=fun vs H Q _=>∃ (p:Addr) (n:Nat) (d:Addr) (ss:List Str) (v:V),vs=[.ref d,v]∧H d=some (.dK (qaO ss 0))∧Th p H n v∧∀ H',L2.Same H H'→Q (.bl (qF ss v)) H'
theorem ok_place (F:Fun K "is_place" "is_place" za f fd) (D_is_name:DefOk P w K mg base CX0 1 "is_name" ["thing"] qd7):FnOk P w K mg base CX0 2 f fd ["numbers", "thing"] qcQ:=by
 refine F.ok sc_is_place (fun vs H Q E h=>?_) fun cdv A outer s H vs Q E hr h=>?_
 ·obtain ⟨p,n,d,ss,v,rfl,_⟩:=h;rfl
 ·obtain ⟨p,n,d,ss,v,rfl,hd,hv,q⟩:=h
  have hu:=qah hr
  refine ⟨_,(qf (qp (qa1 (qr D_is_name (hmR hr) qz (qa (pv 1) qd)) (qa0 (qV (qa6 (K:=K) rfl hu) (pv 1) (pv 0) (by with_unfolding_all rfl)))))),?_⟩
  ext
  refine ⟨p,n,v,rfl,hv,fun H1 s1=>?_⟩
  ext
  have q1:=q H1 s1
  unfold qF at q1
  refine qI (fun hc=>?_) fun hc=>?_
  ·ext
   rw [if_pos hc] at q1
   obtain ⟨e,_,_⟩:=qS hc
   generalize qH v=x at q1 e
   subst e
   refine .inr (.inl ⟨d,_,rfl,DGet.k (k:=Sum.inr x) (s1 d _ hd),?_⟩)
   rw [qbn]
   exact q1
  ·rw [if_neg hc] at q1
   exact q1
def qdJ (ss:List Str) (y z:V):Bool:=qF ss y&&qF ss z&&!decide (qH y=qH z)
def zv (H:Hp) (ss:List Str) (x:V):Option (Str×Str):=match x with
 | .ref a=>(match H a with
  | some (.tup [y,z])=>if qdJ ss y z=true then some (qH y,qH z) else none
  | _=>none)
 | _=>none
theorem qdf {H:Hp} {ss:List Str} {a:Addr} {y z:V} (e:H a=some (.tup [y,z])):zv H ss (.ref a)=if qdJ ss y z=true then some (qH y,qH z) else none:=by
 unfold zv
 dsimp only
 rw [e]
theorem jU {H:Hp} {ss:List Str} {x:V} (h:∀ a xs,x=.ref a→H a=some (.tup xs)→xs.length≠2):zv H ss x=none:=by
 unfold zv
 cases x with
 | ref a =>
  dsimp only
  split
  ·rename_i y z e;exact absurd rfl (h a _ rfl e)
  ·rfl
 | _=>rfl
theorem qcp {p:Addr} {n:Nat} {H H':Hp} {ss:List Str} {x:V} (h:Th p H n x) (k:∀ b o,b≠p→H b=some o→H' b=some o):zv H' ss x=zv H ss x:=by
 cases h with
 | flat f l=>cases x<;>first | rfl | cases f
 | lst e ne h l=>rw [jU (H:=H') (fun a xs z y=>by (cases z;rw [k _ _ ne e] at y;cases y)),jU (H:=H) fun a xs z y=>by (cases z;rw [e] at y;cases y)]
 | tup e ne h l=>unfold zv;dsimp only;rw [k _ _ ne e,e]
 | dct e ne=>rw [jU (H:=H') (fun a xs z y=>by (cases z;rw [k _ _ ne e] at y;cases y)),jU (H:=H) fun a xs z y=>by (cases z;rw [e] at y;cases y)]
theorem qcq {p:Addr} {n:Nat} {H H':Hp} {ss:List Str} {x:V} (h:Th p H n x) (s:L2.Same H H'):zv H' ss x=zv H ss x:=qcp h fun b o _ e=>s b o e
theorem zo {ss:List Str} {v:V} (h:qF ss v=true):qat v=true∧qH v∈ss:=by
 unfold qF at h
 split at h
 ·rename_i z;exact ⟨z,yk h⟩
 ·cases h
def qfu:Sp:=fun vs H Q _=>∃ (p:Addr) (n:Nat) (d:Addr) (ss:List Str) (v:V),vs=[.ref d,v]∧H d=some (.dK (qaO ss 0))∧Th p H n v∧∀ H',L2.Same H H'→Q (.bl (zv H ss v).isSome) H'
theorem ok_two (F:Fun K "are_two_places" "are_two_places" qP f fd) (T:Txt K mg cc cw) (D_is_place:DefOk P w K mg base CX0 2 "is_place" ["numbers", "thing"] qcQ):FnOk P w K mg base CX0 3 f fd ["numbers", "thing"] qfu:=by
 refine F.ok sc_are_two_places (fun vs H Q E h=>?_) fun cdv A outer s H vs Q E hr h=>?_
 ·obtain ⟨p,n,d,ss,v,rfl,_⟩:=h;rfl
 ·obtain ⟨p,n,d,ss,v,rfl,hd,hv,q⟩:=h
  have hu:=qah hr
  refine ⟨_,(qb (qL (PW.pt (qaD (qZ (qK (qm (qax (K:=K) rfl) rfl T.b_isinstance boot_isinstance (qa (pv 1) (qa (j6 (v:=.ty "tuple") rfl T.b_tuple boot_tuple rfl) qd))))) (qau (qv (qaK (K:=K) rfl hu) (qm (jX (K:=K) rfl) rfl T.b_len boot_len (qa (pv 1) qd)) qg (qA _))))) (qf (qp jp)) qq)
 (qb (qu (i:=2) sc_are_two_places.nd rfl (Or.inl rfl) (qa1 (qr D_is_place (hmR hr) qz (qa (pv 0) (qa (qx (qy (K:=K) rfl hu) (pv 1) qg (fun _ _=>rfl)) qd))) (qa0 (qr D_is_place (hmR hr) qz (qa (pv 0) (qa (qx (qy (K:=K) rfl hu) (pv 1) qg (fun _ _=>rfl)) qd))))))
 (qf (qp (qa1 (pv 2) (qa0 (qV (qaK (K:=K) rfl hu) (qx (qy (K:=K) rfl hu) (pv 1) qg (fun _ _=>rfl)) (qx (qy (K:=K) rfl hu) (pv 1) qg (fun _ _=>rfl)) (qA _)))))))),?_⟩
  obtain ⟨t,ht,ty,_,_,h1,h2,_⟩:=hv.ty (K:=K)
  ext
  refine qaL (.inl ty) rfl (j7 K t ht "tuple" (by simp)) ?_
  ext
  refine qI (fun h=>?_) fun h=>?_
  ·ext
   have z:=q H (Sr H)
   rw [jU (fun a xs e y=>absurd y (h2 (by simpa using h) a xs e))] at z
   exact z
  ·obtain ⟨a,xs,rfl,ea,_,hx⟩:=h1 (by simpa using h)
   ext
   refine qfZ ea ?_
   ext
   refine .inl ⟨rfl,rfl,?_⟩
   ext
   refine qI (fun h=>?_) fun h=>?_
   ·ext
    have z:=q H (Sr H)
    rw [jU (fun a' xs' e y=>by
     cases e
     rw [ea] at y
     cases y
     intro e2
     rw [e2] at h
     simp [eqV] at h)] at z
    exact z
   ·have hl:xs.length=2:=by
     simp only [if_true,eqV,Bool.not_eq_true',Bool.not_eq_false'] at h
     have h':((xs.length:Int)==2)=true:=by simpa using h
     have:=eq_of_beq h'
     omega
    match xs,hl,ea,hx with
    | [y,z],_,ea,hx =>
     have hy:=hx y (by simp)
     have hz:=hx z (by simp)
     rw [qdf ea] at q
     ext
     refine .inl (qbE ea rfl ?_)
     ext
     refine ⟨p,n,d,ss,y,rfl,hd,hy,fun H1 s1=>?_⟩
     ext
     have fin:∀ H2,L2.Same H H2→¬ (qF ss y=true∧qF ss z=true)→Q (.bl false) H2:=fun H2 s2 hn=>by
      have:=q H2 s2
      rw [if_neg (fun e=>hn (by unfold qdJ at e;simp only [Bool.and_eq_true] at e;exact ⟨e.1.1,e.1.2⟩))] at this
      exact this
     refine qI (fun h3=>?_) fun h3=>?_
     ·ext
      refine .inl (qbE (s1 _ _ ea) rfl ?_)
      ext
      refine ⟨p,n,d,ss,z,rfl,s1 _ _ hd,hz.same s1,fun H2 s2=>?_⟩
      ext
      refine qI (fun h4=>?_) fun h4=>?_
      ·ext
       refine .inl (qbE (s2 _ _ (s1 _ _ ea)) rfl ?_)
       ext
       refine .inl (qbE (s2 _ _ (s1 _ _ ea)) rfl ?_)
       obtain ⟨ny,_⟩:=zo h3
       obtain ⟨nz,_⟩:=zo h4
       obtain ⟨ey,_,_⟩:=qS ny
       obtain ⟨ez,_,_⟩:=qS nz
       have fq:=q H2 (s1.trans s2)
       unfold qdJ at fq
       rw [h3,h4] at fq
       generalize qH y=sy at ey fq
       generalize qH z=sz at ez fq
       subst ey ez
       refine .inl ⟨rfl,rfl,?_⟩
       have e:(if true=true then !eqV (V.str sy) (V.str sz) else eqV (V.str sy) (V.str sz))=(if (true&&true&&!decide (sy=sz))=true then some (sy,sz) else none).isSome:=by
        by_cases hs:sy=sz
        ·subst hs;simp [eqV]
        ·simp [eqV,hs]
       rw [e]
       exact fq
      ·exact fin H2 (s1.trans s2) fun e=>h4 e.2
     ·ext
      refine yq ?_
      exact fin H1 s1 fun e=>h3 e.1
abbrev jD:Stmt:=top 29
theorem sc_numbers_of:FnScope ["names", "numbers", "name"] ["names"] (qe jD):=fS
theorem qcR (m j:Nat):decide (Builtin.bitAnd ((m:Int) / 2 ^ (j:Int).toNat) 1=1)=m.testBit j:=by
 rw [PyProof.Rows.bitAnd_m1,Nat.testBit_eq_decide_div_mod_eq]
 rw [Int.toNat_natCast]
 have e:(m:Int) / 2 ^ j=((m / 2 ^ j:Nat):Int):=by rw [Int.natCast_ediv,Int.natCast_pow];rfl
 rw [e]
 congr 1
 apply propext
 omega
theorem qe8 (m j:Nat):Builtin.bitOr (m:Int) (1 * 2 ^ (j:Int).toNat)=((m ||| 2 ^ j:Nat):Int):=by
 have e:(1 * 2 ^ (j:Int).toNat:Int)=((2 ^ j:Nat):Int):=by rw [Int.toNat_natCast,Int.one_mul,Int.natCast_pow];rfl
 rw [e]
 generalize 2 ^ j=k
 have n1:Builtin.bitNot (m:Int)=-(m:Int) - 1:=rfl
 have n2:Builtin.bitNot (k:Int)=-(k:Int) - 1:=rfl
 unfold Builtin.bitOr Builtin.bitAnd
 rw [n1,n2,yl (by omega),yl (by omega)]
 dsimp only
 unfold Builtin.bitNot
 have e1:(-(-(m:Int) - 1) - 1).toNat=m:=by omega
 have e2:(-(-(k:Int) - 1) - 1).toNat=k:=by omega
 rw [e1,e2]
 omega
def But (x:Addr) (H H':Hp):Prop:=∀ b o,b≠x→H b=some o→H' b=some o
theorem But.refl (x:Addr) (H:Hp):But x H H:=fun _ _ _ e=>e
theorem But.same {x:Addr} {H H1 H2:Hp} (a:But x H H1) (b:L2.Same H1 H2):But x H H2:=fun c o n e=>b c o (a c o n e)
theorem But.put {x:Addr} {H H1:Hp} {o:HO} (a:But x H H1):But x H (upd H1 x o):=fun c u n e=>by rw [qh n];exact a c u n e
theorem But.new {x l:Addr} {H H1:Hp} {o:HO} (a:But x H H1) (hl:H1 l=none):But x H (upd H1 l o):=a.same (qX (Sr H1) hl)
theorem q8 {K:W.Frag} {H1:Hp} {C:Addr} {fl:Str} {y:V} {E:XK} (c:XAt K C) (q:∀ dx H',L2.Same H1 H'→H' dx=some (.xd [(fl,y)])→E (.ref C) (some dx) H') :
  [y].length≤1000∧∀ x,H1 x=none→spX C fl (.ref x::[y]) (upd H1 x (XN x C none)) (fun v H2=>v=.non∧∃ a C' dx,(V.ref x)=.ref a∧H2 a=some (XN a C' dx)∧XAt K C'∧E (.ref C') dx (upd H2 a (XO a C' dx))) E0:=by
 refine ⟨by show 1≤1000;decide,fun x hx=>⟨x,y,rfl,qc,fun dx hdx=>⟨rfl,x,C,some dx,rfl,qc,c,q dx _ (fun b o e=>?_) ?_⟩⟩⟩
 ·have nx:b≠x:=fun z=>by rw [z,hx] at e;cases e
  have nd:b≠dx:=fun z=>by rw [← z,qh nx,e] at hdx;cases hdx
  rw [qh nx,qh nx,qh nd,qh nx]
  exact e
 ·have nd:dx≠x:=fun z=>by rw [z,qc] at hdx;cases hdx
  rw [qh nd,qh nd,qc]
def qgI (g:TG) (t:TS) (D:Ends) (σ:L2.St) (J:It) (H1:Hp):Prop:=∃ W:Nat→Nat→L2.St→Hp→Prop,(∃ m,W 0 m σ H1)∧∀ i m σ H,W i m σ H →
 (J.stop i H∧D.nx σ H)∨(J.go i H∧∃ N:L2.St→Hp→Prop,(∀ σ' H',N σ' H'→∃ m',m' < m∧W (i + 1) m' σ' H')∧∀ x H',J.yld i H x H'→g x σ H' fun σ2 H2=>t { D with nx:=N,ct:=N,bk:=D.nx } σ2 H2)
theorem qd8 {K:W.Frag} {p:Addr} {H H1:Hp} {v:V} {xs:List V} {g:TG} {tb:TS} {D:Ends} {σ:L2.St} (h:Arg p H v (some xs)) (s1:L2.Same H H1) (Pv:Nat→L2.St→Hp→Prop) (h0:Pv 0 σ H1) (hl:∀ i σ H',Pv i σ H'→L2.Same H H')
  (hs:∀ i x σ H,xs[i]?=some x→Pv i σ H→g x σ H fun σ2 H2=>tb { D with nx:=Pv (i + 1),ct:=Pv (i + 1),bk:=D.nx } σ2 H2) (hd:∀ σ H,Pv xs.length σ H→D.nx σ H) :
  (match v with
   | .str x=>qgI g tb D σ (Its x) H1
   | .ref a=>((∃ xs,SqL K H1 a xs)∧qgI g tb D σ (Itl K a) H1)∨((∃ xs,SqT K H1 a xs)∧qgI g tb D σ (Itt K a) H1)
   | _=>False):=by
 cases h with
 | lst e ne h l=>exact .inl ⟨⟨_,SqL.of (s1 _ _ e)⟩,jq (K:=K) Pv h0 (fun i σ H' _ hp=>SqL.of (hl i σ H' hp _ _ e)) hs hd⟩
 | tup e ne h l=>exact .inr ⟨⟨_,SqT.of (s1 _ _ e)⟩,for_tup (K:=K) Pv h0 (fun i σ H' _ hp=>SqT.of (hl i σ H' hp _ _ e)) hs hd⟩
theorem Arg.ty {K:W.Frag} {p:Addr} {H:Hp} {v:V} {o:Option (List V)} (h:Arg p H v o):∃ t,TyX K H v t∧W.kitAny K t [.type "list",.type "tuple"]=some o.isSome:=by
 cases h with
 | lst e ne h l=>exact ⟨_,.inl (.lst e),rfl⟩
 | tup e ne h l=>exact ⟨_,.inl (.tup e),rfl⟩
 | flat f l =>
  cases v with
  | non=>exact ⟨_,.inl .non,rfl⟩
  | bl x=>exact ⟨_,.inl (.bl x),rfl⟩
  | int x=>exact ⟨_,.inl (.int x),rfl⟩
  | str x=>exact ⟨_,.inl (.str x),rfl⟩
  | _=>cases f
 | dct e ne=>exact ⟨_,.inl (.dK e),rfl⟩
theorem Arg.len {K:W.Frag} {p:Addr} {H:Hp} {v:V} {xs:List V} {Q:VK} (h:Arg p H v (some xs)) (q:Q (.int xs.length) H):qcJ K [v] H Q:=by
 cases h with
 | lst e ne h l=>exact qaU e q
 | tup e ne h l=>exact qfZ e q
theorem Arg.few {p:Addr} {H:Hp} {v:V} {xs:List V} (h:Arg p H v (some xs)):xs.length≤1000∧∀ x∈xs,Th p H 2 x:=by
 cases h with
 | lst e ne h l=>exact ⟨l,h⟩
 | tup e ne h l=>exact ⟨l,h⟩
theorem Arg.isi {K:W.Frag} {p q:Addr} {H:Hp} {v:V} {o:Option (List V)} {Q:VK} (h:Arg p H v o) (hq:H q=some (.tup [.ty "list",.ty "tuple"])) (k:Q (.bl o.isSome) H):qe1 K [v,.ref q] H Q:=by
 obtain ⟨t,ty,e⟩:=h.ty (K:=K)
 exact ⟨v,q,_,t,_,_,rfl,ty,hq,rfl,e,k⟩
def qdK:List V→List Str→Option (Nat×V)
 | [],_=>none
 | x::r,ss=>if qat x=true then (if qH x∈ss then some (1,x) else qdK r (ss++[qH x])) else some (0,x)
theorem qcr (x:V) (r:List V) (ss:List Str):qdK (x::r) ss=if qat x=true then (if qH x∈ss then some (1,x) else qdK r (ss++[qH x])) else some (0,x):=rfl
theorem qcs:∀ {xs:List V} {ss:List Str},qdK xs ss=none→xs=(xs.map qH).map V.str∧(∀ x∈xs,qat x=true)∧(∀ s∈xs.map qH,s∉ss)∧(xs.map qH).Nodup
 | [],ss,_=>⟨rfl,by simp,by simp,by simp⟩
 | x::r,ss,h=>by
  unfold qdK at h
  split at h
  ·rename_i hn
   split at h
   ·cases h
   ·rename_i hm
    obtain ⟨i1,i2,i3,i4⟩:=qcs h
    obtain ⟨e,_,_⟩:=qS hn
    refine ⟨?_,?_,?_,?_⟩
    ·rw [List.map_cons,List.map_cons,← e,← i1]
    ·intro y hy
     rcases List.mem_cons.mp hy with rfl | hy
     ·exact hn
     ·exact i2 y hy
    ·intro s hs
     rcases List.mem_cons.mp hs with rfl | hs
     ·exact hm
     ·exact fun z=>i3 s hs (List.mem_append_left _ z)
    ·rw [List.map_cons,yo]
     exact ⟨fun z=>i3 _ z (List.mem_append_right _ (by simp)),i4⟩
  ·cases h
def qfG (v:V):Option (List V)→Option (Nat×V)
 | none=>some (0,v)
 | some xs=>if 14 < xs.length then some (4,.int xs.length) else qdK xs []
def Rz (cc:Nat→Addr) (H:Hp) (E:XK) (r:Nat×V):Prop:=∀ dx H',L2.Same H H'→H' dx=some (.xd [(qa3 r.1,r.2)])→E (.ref (cc r.1)) (some dx) H'
theorem Rz.later {cc:Nat→Addr} {H H1:Hp} {E:XK} {r:Nat×V} (h:Rz cc H E r) (s:L2.Same H H1):Rz cc H1 E r:=fun dx H' t e=>h dx H' (s.trans t) e
def qe9 (cc:Nat→Addr):Sp:=fun vs H Q E=>∃ (p:Addr) (v:V) (o:Option (List V)),vs=[v]∧Arg p H v o∧(∀ r,qfG v o=some r→Rz cc H E r)∧(qfG v o=none→∀ d H',L2.Same H H'→H d=none→H' d=some (.dK (qaO ((o.getD []).map qH) 0))→Q (.ref d) H')
theorem ok_nums (F:Fun K "numbers_of" "numbers_of" jD f fd) (T:Txt K mg cc cw) (D_is_name:DefOk P w K mg base CX0 1 "is_name" ["thing"] qd7)
  (D_NoName:XMakeOk P w K mg base 2 (cc 0) "NoName" ["self", "found"] (spX (cc 0) (qa3 0))) (D_Twice:XMakeOk P w K mg base 2 (cc 1) "Twice" ["self", "name"] (spX (cc 1) (qa3 1))) (D_TooMany:XMakeOk P w K mg base 2 (cc 4) "TooMany" ["self", "many"] (spX (cc 4) (qa3 4))) :
  FnOk P w K mg base (CX1 P w) 4 f fd ["names"] (qe9 cc):=by
 refine F.ok1 sc_numbers_of (fun vs H Q E h=>?_) fun cdv A outer s H vs Q E hr h=>?_
 ·obtain ⟨p,v,o,rfl,_⟩:=h;rfl
 ·obtain ⟨p,v,o,rfl,ha,hz,q⟩:=h
  have hu:=qah hr
  refine ⟨_,(qb (qL (qZ (qK (qm (qd3 (K:=K) rfl) rfl T.b_isinstance boot_isinstance (qa (pv 0) (qa (jJ (qa (j6 (v:=.ty "list") rfl T.b_list boot_list rfl) (qa (j6 (v:=.ty "tuple") rfl T.b_tuple boot_tuple rfl) qd))) qd))))) (qf (zl (K:=K) rfl jl (qbk D_NoName (hmR hr) (qa (pv 0) qd)))) qq)
 (qb (qL (qv qcD (qm (jX (K:=K) rfl) rfl T.b_len boot_len (qa (pv 0) qd)) (qbO rfl T.g_MOST_PLACES) (qA _)) (qf (zl (K:=K) rfl jl (qbk D_TooMany (hmR hr) (qa (qm (jX (K:=K) rfl) rfl T.b_len boot_len (qa (pv 0) qd)) qd)))) qq)
 (qb (qu (i:=1) sc_numbers_of.nd rfl (Or.inl rfl) zr)
 (qb (jm PassesOwn.leaving rfl (jK (K:=K) rfl (pv 0)) (qw (i:=2) sc_numbers_of.nd rfl (Or.inl rfl))
 (qb (qL (qZ (qK (qr D_is_name (hmR hr) qz (qa (pv 2) qd)))) (qf (zl (K:=K) rfl jl (qbk D_NoName (hmR hr) (qa (pv 2) qd)))) qq)
 (qb (qL (qv (qa6 (K:=K) rfl hu) (pv 2) (pv 1) (by with_unfolding_all rfl)) (qf (zl (K:=K) rfl jl (qbk D_Twice (hmR hr) (qa (pv 2) qd)))) qq)
 (qf (jG (qm (jX (K:=K) rfl) rfl T.b_len boot_len (qa (pv 1) qd)) (jV (pv 1) (pv 2) (jZ hu)))))))
 (qf (qp (pv 1))))))),?_⟩
  ext
  refine ⟨by show 2≤sizeLine;decide,fun g hg=>?_⟩
  have s0:=qX (Sr H) (o:=.tup [.ty "list",.ty "tuple"]) hg
  ext
  refine (ha.same s0).isi qc ?_
  ext
  cases o with
  | none =>
   refine qI (fun _=>?_) (fun h=>absurd rfl h)
   ext
   exact q8 (T.xat 0 (by decide)) ((hz (0,v) rfl).later s0)
  | some xs =>
   refine yq ?_
   obtain ⟨few,hth⟩:=ha.few
   ext
   refine (ha.same s0).len ?_
   ext
   refine qI (fun h=>?_) fun h=>?_
   ·ext
    refine (ha.same s0).len ?_
    ext
    have h':14 < xs.length:=by have:=yk h;omega
    exact q8 (T.xat 4 (by decide)) ((hz (4,.int xs.length) (by show (if 14 < xs.length then _ else _)=_;rw [if_pos h'])).later s0)
   ·have h':¬ 14 < xs.length:=fun z=>h (decide_eq_true (by omega))
    have ho:qfG v (some xs)=qdK xs []:=by show (if 14 < xs.length then _ else _)=_;rw [if_neg h']
    rw [ho] at hz q
    ext
    intro d hd
    have s1:=qX s0 (o:=.dK []) hd
    have hd0:H d=none:=s0.free hd
    ext
    refine qd8 ha s1 (fun i σ H'=>∃ v2,σ=[some v,some (.ref d),v2]∧L2.Same H H'∧H' d=some (.dK (qaO ((xs.take i).map qH) 0))∧qdK xs []=qdK (xs.drop i) ((xs.take i).map qH)) ⟨none,rfl,s1,qc,rfl⟩ (fun i σ H' hp=>by obtain ⟨_,_,z,_⟩:=hp;exact z) (fun i x σ H' hx hp=>?_) fun σ H' hp=>?_
    ·obtain ⟨v2,rfl,s2,hk,hdue⟩:=hp
     have hil:i < xs.length:=(yc.mp hx).1
     have hdr:xs.drop i=x::xs.drop (i + 1):=by
      rw [List.drop_eq_getElem_cons hil]
      have:=(yc.mp hx).2
      rw [this]
     have htk:xs.take (i + 1)=xs.take i++[x]:=by rw [List.take_add_one,hx];rfl
     rw [hdr,qcr] at hdue
     ext
     refine ⟨p,2,x,rfl,(hth x (ye hx)).same s2,fun H1 t1=>?_⟩
     have s3:=s2.trans t1
     ext
     refine qI (fun hn=>?_) fun hn=>?_
     ·ext
      have hn':¬ qat x=true:=by simpa using hn
      rw [if_neg hn'] at hdue
      exact q8 (T.xat 0 (by decide)) ((hz (0,x) hdue).later s3)
     ·have hn':qat x=true:=by simpa using hn
      rw [if_pos hn'] at hdue
      obtain ⟨ex,_,hx6⟩:=qS hn'
      have key:∀ y,y=qH x→x=.str y:=fun y hy=>by rw [hy];exact ex
      generalize hy:qH x=y at hdue hx6 ex
      subst ex
      ext
      refine .inr (.inl ⟨d,_,rfl,DGet.k (k:=Sum.inr y) (t1 _ _ hk),?_⟩)
      rw [qbn]
      ext
      refine qI (fun hm=>?_) fun hm=>?_
      ·ext
       have hm':y∈(xs.take i).map qH:=yk hm
       rw [if_pos hm'] at hdue
       exact q8 (T.xat 1 (by decide)) ((hz (1,.str y) hdue).later s3)
      ·have hm':y∉(xs.take i).map qH:=fun z=>hm (decide_eq_true z)
       rw [if_neg hm'] at hdue
       ext
       refine .inr ⟨_,t1 _ _ hk,?_⟩
       ext
       refine .inr ⟨d,_,rfl,DPut.k (k:=Sum.inr y) (t1 _ _ hk) (qk (by rw [zS,ya,List.length_take];omega)),?_⟩
       refine ⟨_,rfl,qbG s3 hd0,?_,?_⟩
       ·rw [qc,qa9 _ (qbm hm'),htk,List.map_append,List.map_cons,List.map_nil,qco,zS]
        simp only [Nat.zero_add]
        rfl
       ·rw [hdue,htk,List.map_append]
        rfl
    ·obtain ⟨v2,rfl,s2,hk,hdue⟩:=hp
     rw [List.drop_length] at hdue
     ext
     rw [List.take_length] at hk
     exact q hdue d H' s2 hd0 hk
abbrev zb:Stmt:=jo (top 25) 0
theorem sc_Web_init:FnScope ["self", "names", "ties"] ["self", "names", "ties"] (qe zb):=fS
abbrev zC:Stmt:=top 30
theorem sc_near_of:FnScope ["numbers", "ties", "near", "tie", "one", "other"] ["numbers", "ties"] (qe zC):=fS
def goT (H:Hp) (ss:List Str):List V→List (Str×Str)→Option V
 | [],_=>none
 | x::r,seen=>match zv H ss x with
  | none=>some x
  | some t=>if t∈seen∨(t.2,t.1)∈seen then some x else goT H ss r (seen++[t])
theorem qd9 {H:Hp} {ss:List Str} {x:V} {r:List V} {seen:List (Str×Str)} (h:zv H ss x=none):goT H ss (x::r) seen=some x:=by
 show (match zv H ss x with | none=>_ | some t=>_)=_
 rw [h]
theorem qdg {H:Hp} {ss:List Str} {x:V} {r:List V} {seen:List (Str×Str)} {t:Str×Str} (h:zv H ss x=some t):goT H ss (x::r) seen=if t∈seen∨(t.2,t.1)∈seen then some x else goT H ss r (seen++[t]):=by
 show (match zv H ss x with | none=>_ | some t=>_)=_
 rw [h]
def qet (H:Hp) (ss:List Str) (v:V):Option (List V)→Option (Nat×V)
 | none=>some (3,v)
 | some xs=>if 30 < xs.length then some (4,.int xs.length) else (goT H ss xs []).map fun y=>(3,y)
theorem qai {H:Hp} {ss:List Str} {x:V} {t:Str×Str} (h:zv H ss x=some t):∃ a,x=.ref a∧H a=some (.tup [.str t.1,.str t.2])∧j3 t.1=true∧j3 t.2=true∧t.1.length≤6∧t.2.length≤6∧t.1∈ss∧t.2∈ss∧t.1≠t.2:=by
 unfold zv at h
 split at h
 ·rename_i a
  split at h
  ·rename_i y z e
   split at h
   ·rename_i hp
    cases h
    unfold qdJ at hp
    simp only [Bool.and_eq_true] at hp
    obtain ⟨⟨h1,h2⟩,h3⟩:=hp
    obtain ⟨n1,m1⟩:=zo h1
    obtain ⟨n2,m2⟩:=zo h2
    obtain ⟨e1,g1,l1⟩:=qS n1
    obtain ⟨e2,g2,l2⟩:=qS n2
    refine ⟨a,rfl,?_,g1,g2,l1,l2,m1,m2,?_⟩
    ·show H a=some (.tup [.str (qH y),.str (qH z)])
     rw [← e1,← e2]
     exact e
    ·simpa using h3
   ·cases h
  ·cases h
 ·cases h
def qa4 (ss:List Str) (ns:List Nat) (seen:List (Str×Str)):Prop:=ns.length=ss.length∧(∀ a,ns.getD a 0 < 2 ^ ss.length)∧∀ a b s t,ss[a]?=some s→ss[b]?=some t→(ns.getD a 0).testBit b=decide ((s,t)∈seen∨(t,s)∈seen)
theorem qJ {ss:List Str} (h:ss.Nodup) {a b:Nat} {s:Str} (ha:ss[a]?=some s) (hb:ss[b]?=some s):a=b:=by
 have hp:=List.pairwise_iff_getElem.mp h
 obtain ⟨la,ea⟩:=yc.mp ha
 obtain ⟨lb,eb⟩:=yc.mp hb
 rcases Nat.lt_trichotomy a b with q | q | q
 ·exact absurd (ea.trans eb.symm) (hp a b la lb q)
 ·exact q
 ·exact absurd (eb.trans ea.symm) (hp b a lb la q)
theorem bits_zero {ss:List Str}:qa4 ss (List.replicate ss.length 0) []:=by
 have z:∀ a,(List.replicate ss.length 0).getD a 0=0:=fun a=>by
  simp only [List.getD,List.getElem?_replicate]
  split<;>rfl
 refine ⟨by simp,fun a=>by rw [z a];exact Nat.two_pow_pos _,fun a b s t ha hb=>?_⟩
 rw [z a]
 simp
theorem qaP {ns:List Nat} {i j v:Nat} (h:i < ns.length):(ns.set i v).getD j 0=if i=j then v else ns.getD j 0:=by
 simp only [List.getD,List.getElem?_set]
 by_cases e:i=j
 ·subst e;simp [h]
 ·simp [e]
theorem bits_step {ss:List Str} {ns:List Nat} {seen:List (Str×Str)} (hb:qa4 ss ns seen) (hn:ss.Nodup) {i j:Nat} {s t:Str} (hi:ss[i]?=some s) (hj:ss[j]?=some t) (hst:s≠t) :
  qa4 ss ((ns.set i (ns.getD i 0 ||| 2 ^ j)).set j (ns.getD j 0 ||| 2 ^ i)) (seen++[(s,t)]):=by
 obtain ⟨hl,hlt,h⟩:=hb
 have li:i < ns.length:=by rw [hl];exact (yc.mp hi).1
 have lj:j < ns.length:=by rw [hl];exact (yc.mp hj).1
 have nij:i≠j:=fun e=>by rw [e,hj] at hi;cases hi;exact hst rfl
 have li':i < ss.length:=(yc.mp hi).1
 have lj':j < ss.length:=(yc.mp hj).1
 refine ⟨by simp [hl],fun a=>?_,fun a b u v ha hb'=>?_⟩
 ·rw [qaP (by simpa using lj),qaP li]
  split
  ·exact Nat.or_lt_two_pow (hlt _) (Nat.pow_lt_pow_right (by decide) li')
  ·split
   ·exact Nat.or_lt_two_pow (hlt _) (Nat.pow_lt_pow_right (by decide) lj')
   ·exact hlt _
 rw [qaP (by simpa using lj),qaP li]
 have h0:=h a b u v ha hb'
 have key:∀ P Q:Prop,(P↔Q)→∀ [Decidable P] [Decidable Q],decide P=decide Q:=fun P Q e=>by intro _ _;exact decide_eq_decide.mpr e
 by_cases ja:j=a
 ·subst ja
  rw [hj] at ha
  cases ha
  rw [if_pos rfl,Nat.testBit_or,h0,Nat.testBit_two_pow]
  by_cases ib:i=b
  ·subst ib
   rw [hi] at hb'
   cases hb'
   simp
  ·have vs:v≠s:=fun e=>by subst e;exact ib (qJ hn hi hb')
   simp only [ib,decide_false,Bool.or_false]
   apply decide_eq_decide.mpr
   simp only [List.mem_append,List.mem_singleton,Prod.mk.injEq]
   constructor
   ·rintro (z | z)
    ·exact .inl (.inl z)
    ·exact .inr (.inl z)
   ·rintro ((z | ⟨z,_⟩) | (z | ⟨z,_⟩))
    ·exact .inl z
    ·exact absurd z.symm hst
    ·exact .inr z
    ·exact absurd z vs
 ·rw [if_neg ja]
  by_cases ia:i=a
  ·subst ia
   rw [hi] at ha
   cases ha
   rw [if_pos rfl,Nat.testBit_or,h0,Nat.testBit_two_pow]
   by_cases jb:j=b
   ·subst jb
    rw [hj] at hb'
    cases hb'
    simp
   ·have vt:v≠t:=fun e=>by subst e;exact jb (qJ hn hj hb')
    simp only [jb,decide_false,Bool.or_false]
    apply decide_eq_decide.mpr
    simp only [List.mem_append,List.mem_singleton,Prod.mk.injEq]
    constructor
    ·rintro (z | z)
     ·exact .inl (.inl z)
     ·exact .inr (.inl z)
    ·rintro ((z | ⟨_,z⟩) | (z | ⟨_,z⟩))
     ·exact .inl z
     ·exact absurd z vt
     ·exact .inr z
     ·exact absurd z hst
  ·rw [if_neg ia,h0]
   have us:u≠s:=fun e=>by subst e;exact ia (qJ hn hi ha)
   have ut:u≠t:=fun e=>by subst e;exact ja (qJ hn hj ha)
   apply decide_eq_decide.mpr
   simp only [List.mem_append,List.mem_singleton,Prod.mk.injEq]
   constructor
   ·rintro (z | z)
    ·exact .inl (.inl z)
    ·exact .inr (.inl z)
   ·rintro ((z | ⟨z,_⟩) | (z | ⟨_,z⟩))
    ·exact .inl z
    ·exact absurd z us
    ·exact .inr z
    ·exact absurd z ut
def qdh (ns:List Nat):List V:=ns.map fun (n:Nat)=>.int (n:Int)
theorem qbb {ns:List Nat} {i:Nat} (h:i < ns.length):(qdh ns)[i]?=some (.int (ns.getD i 0:Nat)):=by
 unfold qdh
 rw [yd,yb h]
 simp [List.getD,h]
theorem qdi (ns:List Nat) (i m:Nat):(qdh ns).set i (.int m)=qdh (ns.set i m):=by
 unfold qdh
 rw [List.map_set]
theorem natV_zero (k:Nat):(List.replicate k [V.int 0]).flatten=qdh (List.replicate k 0):=by
 induction k with
 | zero=>rfl
 | succ k ih=>rw [List.replicate_succ,List.flatten_cons,ih];rfl
theorem qea {n j:Nat} (h:j < n):ixN n (j:Int)=some j:=by
 unfold ixN
 rw [if_pos (by omega),if_pos (by omega)]
 rfl
def qfa (cc:Nat→Addr):Sp:=fun vs H Q E=>∃ (p d:Addr) (ss:List Str) (v:V) (o:Option (List V)),vs=[.ref d,v]∧H d=some (.dK (qaO ss 0))∧ss.length≤14∧ss.Nodup∧Arg p H v o∧(∀ r,qet H ss v o=some r→Rz cc H E r) ∧
 (qet H ss v o=none→∀ n ns H',L2.Same H H'→H n=none→H' n=some (.lst (qdh ns))→qa4 ss ns ((o.getD []).filterMap (zv H ss))→Q (.ref n) H')
theorem ok_near (F:Fun K "near_of" "near_of" zC f fd) (T:Txt K mg cc cw) (D_are_two_places:DefOk P w K mg base CX0 3 "are_two_places" ["numbers", "thing"] qfu) (D_has_bit:DefOk P w K mg base CX0 1 "has_bit" ["bits", "number"] qeB)
  (D_NoTie:XMakeOk P w K mg base 2 (cc 3) "NoTie" ["self", "found"] (spX (cc 3) (qa3 3))) (D_TooMany:XMakeOk P w K mg base 2 (cc 4) "TooMany" ["self", "many"] (spX (cc 4) (qa3 4))) :
  FnOk P w K mg base (CX1 P w) 4 f fd ["numbers", "ties"] (qfa cc):=by
 refine F.ok1 sc_near_of (fun vs H Q E h=>?_) fun cdv A outer s H vs Q E hr h=>?_
 ·obtain ⟨p,d,ss,v,o,rfl,_⟩:=h;rfl
 ·obtain ⟨p,d,ss,v,o,rfl,hd,hs14,hnd,ha,hz,q⟩:=h
  have hu:=qah hr
  refine ⟨_,(qb (qL (qZ (qK (qm (qd3 (K:=K) rfl) rfl T.b_isinstance boot_isinstance (qa (pv 1) (qa (jJ (qa (j6 (v:=.ty "list") rfl T.b_list boot_list rfl) (qa (j6 (v:=.ty "tuple") rfl T.b_tuple boot_tuple rfl) qd))) qd))))) (qf (zl (K:=K) rfl jl (qbk D_NoTie (hmR hr) (qa (pv 1) qd)))) qq)
 (qb (qL (qv qcD (qm (jX (K:=K) rfl) rfl T.b_len boot_len (qa (pv 1) qd)) (qbO rfl T.g_MOST_TIES) (qA _)) (qf (zl (K:=K) rfl jl (qbk D_TooMany (hmR hr) (qa (qm (jX (K:=K) rfl) rfl T.b_len boot_len (qa (pv 1) qd)) qd)))) qq)
 (qb (qu (i:=2) sc_near_of.nd rfl (Or.inl rfl) (qB qeQ (jv (qa qg qd)) (qm (jX (K:=K) rfl) rfl T.b_len boot_len (qa (pv 0) qd))))
 (qb (jm PassesOwn.leaving rfl (jK (K:=K) rfl (pv 1)) (qw (i:=3) sc_near_of.nd rfl (Or.inl rfl))
 (qb (qL (qZ (qK (qr D_are_two_places (hmR hr) qz (qa (pv 0) (qa (pv 3) qd))))) (qf (zl (K:=K) rfl jl (qbk D_NoTie (hmR hr) (qa (pv 3) qd)))) qq)
 (qb (qu (i:=4) sc_near_of.nd rfl (Or.inl rfl) (qx (qy (K:=K) rfl hu) (pv 0) (qx (qy (K:=K) rfl hu) (pv 3) qg (fun _ _=>rfl)) (fun _ _=>rfl)))
 (qb (qu (i:=5) sc_near_of.nd rfl (Or.inl rfl) (qx (qy (K:=K) rfl hu) (pv 0) (qx (qy (K:=K) rfl hu) (pv 3) qg (fun _ _=>rfl)) (fun _ _=>rfl)))
 (qb (qL (qK (qr D_has_bit (hmR hr) qz (qa (qx (qy (K:=K) rfl hu) (pv 2) (pv 4) (fun _ _=>rfl)) (qa (pv 5) qd)))) (qf (zl (K:=K) rfl jl (qbk D_NoTie (hmR hr) (qa (pv 3) qd)))) qq)
 (qb (jG (qB qfP (qx (qy (K:=K) rfl hu) (pv 2) (pv 4) (fun _ _=>rfl)) (qB qeM qg (pv 5))) (jV (pv 2) (pv 4) (jZ hu)))
 (qf (jG (qB qfP (qx (qy (K:=K) rfl hu) (pv 2) (pv 5) (fun _ _=>rfl)) (qB qeM qg (pv 4))) (jV (pv 2) (pv 5) (jZ hu))))))))))
 (qf (qp (pv 2))))))),?_⟩
  ext
  refine ⟨by show 2≤sizeLine;decide,fun g hg=>?_⟩
  have s0:=qX (Sr H) (o:=.tup [.ty "list",.ty "tuple"]) hg
  ext
  refine (ha.same s0).isi qc ?_
  ext
  cases o with
  | none =>
   refine qI (fun _=>?_) (fun h=>absurd rfl h)
   ext
   exact q8 (T.xat 3 (by decide)) ((hz (3,v) rfl).later s0)
  | some xs =>
   refine yq ?_
   obtain ⟨few,hth⟩:=ha.few
   ext
   refine (ha.same s0).len ?_
   ext
   refine qI (fun h=>?_) fun h=>?_
   ·ext
    refine (ha.same s0).len ?_
    ext
    have h':30 < xs.length:=by have:=yk h;omega
    exact q8 (T.xat 4 (by decide)) ((hz (4,.int xs.length) (by show (if 30 < xs.length then _ else _)=_;rw [if_pos h'])).later s0)
   ·have h':¬ 30 < xs.length:=fun z=>h (decide_eq_true (by omega))
    have ho:qet H ss v (some xs)=(goT H ss xs []).map fun y=>(3,y):=by show (if 30 < xs.length then _ else _)=_;rw [if_neg h']
    rw [ho] at hz q
    ext
    refine ⟨by show 1≤sizeLine;decide,fun z hzz=>?_⟩
    have s1:=qX s0 (o:=.lst [.int 0]) hzz
    ext
    refine .inr ⟨_,s1 _ _ hd,?_⟩
    ext
    rw [zS]
    refine ⟨z,_,_,rfl,rfl,qc,by omega,by omega,by show 1 * _≤sizeLine;rw [Int.toNat_natCast];exact Nat.le_of_lt (qk (by omega)),fun n hn=>?_⟩
    rw [Int.toNat_natCast,natV_zero]
    have s2:=qX s1 (o:=.lst (qdh (List.replicate ss.length 0))) hn
    have n0:H n=none:=s1.free hn
    ext
    refine qd8 ha s2 (fun i σ H'=>∃ v3 v4 v5 ns,σ=[some (.ref d),some v,some (.ref n),v3,v4,v5]∧L2.Same H H'∧H' n=some (.lst (qdh ns))∧qa4 ss ns ((xs.take i).filterMap (zv H ss))∧goT H ss xs []=goT H ss (xs.drop i) ((xs.take i).filterMap (zv H ss)))
     ⟨none,none,none,_,rfl,s2,qc,bits_zero,rfl⟩ (fun i σ H' hp=>by obtain ⟨_,_,_,_,_,z,_⟩:=hp;exact z) (fun i x σ H' hx hp=>?_) fun σ H' hp=>?_
    ·obtain ⟨v3,v4,v5,ns,rfl,s3,hnn,hbits,hgo⟩:=hp
     have hil:i < xs.length:=(yc.mp hx).1
     have hdr:xs.drop i=x::xs.drop (i + 1):=by
      rw [List.drop_eq_getElem_cons hil]
      have:=(yc.mp hx).2
      rw [this]
     have htk:xs.take (i + 1)=xs.take i++[x]:=by rw [List.take_add_one,hx];rfl
     have hxt:=hth x (ye hx)
     rw [hdr] at hgo
     ext
     refine ⟨p,2,d,ss,x,rfl,s3 _ _ hd,hxt.same s3,fun H1 t1=>?_⟩
     rw [qcq hxt s3]
     have s4:=s3.trans t1
     have hn1:=t1 _ _ hnn
     ext
     cases ht:zv H ss x with
     | none =>
      refine qI (fun _=>?_) (fun h=>absurd rfl h)
      ext
      rw [qd9 ht] at hgo
      exact q8 (T.xat 3 (by decide)) ((hz (3,x) (by rw [hgo];rfl)).later s4)
     | some st =>
      refine yq ?_
      obtain ⟨a,rfl,ea,n1,n2,l1,l2,m1,m2,hne⟩:=qai ht
      rw [qdg ht] at hgo
      obtain ⟨sx,sy⟩:=st
      dsimp only at ea n1 n2 l1 l2 m1 m2 hne hgo
      obtain ⟨ja,hja,gja,vja⟩:=zn (i:=0) m1
      obtain ⟨jb,hjb,gjb,vjb⟩:=zn (i:=0) m2
      rw [Nat.zero_add] at vja vjb
      have nab:ja≠jb:=fun e=>by rw [e,gjb] at gja;cases gja;exact hne rfl
      have lna:ja < ns.length:=by rw [hbits.1];exact hja
      have lnb:jb < ns.length:=by rw [hbits.1];exact hjb
      ext
      refine .inl (qbE (s4 _ _ ea) rfl ?_)
      refine .inr ⟨d,.int ja,rfl,?_,?_⟩
      ·have:=DGet.k (k:=Sum.inr sx) (s4 _ _ hd)
       rw [vja] at this
       exact this
      ext
      refine .inl (qbE (s4 _ _ ea) rfl ?_)
      refine .inr ⟨d,.int jb,rfl,?_,?_⟩
      ·have:=DGet.k (k:=Sum.inr sy) (s4 _ _ hd)
       rw [vjb] at this
       exact this
      ext
      refine .inl (zk hn1 (qt (qbb lna)) ?_)
      ext
      refine ⟨_,_,rfl,by omega,?_⟩
      rw [qcR,hbits.2.2 ja jb sx sy gja gjb]
      ext
      refine qI (fun hm=>?_) fun hm=>?_
      ·ext
       rw [if_pos (yk hm)] at hgo
       exact q8 (T.xat 3 (by decide)) ((hz (3,.ref a) (by rw [hgo];rfl)).later s4)
      ·rw [if_neg (fun e=>hm (decide_eq_true e))] at hgo
       ext
       refine .inl (zk hn1 (qt (qbb lna)) ?_)
       ext
       refine vI ⟨by omega,by omega,by decide⟩ ?_
       ext
       rw [qe8]
       refine .inl (qeA hn1 (qea (by unfold qdh;rw [ya];exact lna)) ?_)
       rw [qdi]
       ext
       have e2:(ns.set ja (ns.getD ja 0 ||| 2 ^ jb)).getD jb 0=ns.getD jb 0:=by rw [qaP lna,if_neg nab]
       refine .inl (zk qc (qt (qbb (by simpa using lnb))) ?_)
       ext
       refine vI ⟨by omega,by omega,by decide⟩ ?_
       ext
       rw [qe8,e2]
       refine .inl (qeA qc (qea (by unfold qdh;rw [ya];simpa using lnb)) ?_)
       rw [qdi]
       have hfm:(xs.take (i + 1)).filterMap (zv H ss)=(xs.take i).filterMap (zv H ss)++[(sx,sy)]:=by
        rw [htk,List.filterMap_append]
        simp [ht]
       refine ⟨_,_,_,_,rfl,qbG (qbG s4 n0) n0,qc,?_,?_⟩
       ·rw [hfm]
        exact bits_step hbits hnd gja gjb hne
       ·rw [hfm]
        exact hgo
    ·obtain ⟨v3,v4,v5,ns,rfl,s3,hnn,hbits,hgo⟩:=hp
     rw [List.drop_length] at hgo
     ext
     rw [List.take_length] at hbits
     exact q (by rw [hgo];rfl) n _ H' s3 n0 hnn hbits
def qfv (H:Hp) (v:V) (o:Option (List V)) (v2:V) (o2:Option (List V)):Option (Nat×V):=match qfG v o with
 | some r=>some r
 | none=>qet H ((o.getD []).map qH) v2 o2
theorem outN_good {v:V} {o:Option (List V)} (h:qfG v o=none):∃ xs,o=some xs∧xs.length≤14∧xs=(xs.map qH).map V.str∧(∀ x∈xs,qat x=true)∧(xs.map qH).Nodup:=by
 cases o with
 | none=>cases h
 | some xs =>
  have h':(if 14 < xs.length then some ((4:Nat),V.int xs.length) else qdK xs [])=none:=h
  split at h'
  ·cases h'
  ·obtain ⟨a,b,c,d⟩:=qcs h'
   exact ⟨xs,rfl,by omega,a,b,d⟩
theorem qdj {p x:Addr} {H H':Hp} {ss:List Str} (k:∀ b o,b≠p→H b=some o→H' b=some o):∀ (xs:List V) (seen:List (Str×Str)),(∀ x∈xs,Th p H 2 x)→goT H' ss xs seen=goT H ss xs seen
 | [],_,_=>rfl
 | y::r,seen,h=>by
  have e:=qcp (ss:=ss) (h y List.mem_cons_self) k
  have hr:=fun z hz=>h z (List.mem_cons_of_mem y hz)
  cases ht:zv H ss y with
  | none=>rw [qd9 (e.trans ht),qd9 ht]
  | some t=>rw [qdg (e.trans ht),qdg ht,qdj (x:=x) k r _ hr]
theorem qct {p:Addr} {H H':Hp} {ss:List Str} {v:V} {o:Option (List V)} (h:Arg p H v o) (k:∀ b o,b≠p→H b=some o→H' b=some o):qet H' ss v o=qet H ss v o:=by
 cases o with
 | none=>rfl
 | some xs =>
  show (if _ then _ else (goT H' ss xs []).map _)=if _ then _ else (goT H ss xs []).map _
  rw [qdj (x:=p) k xs [] h.few.2]
structure WOk (ss:List Str) (ns:List Nat):Prop where
 len:ns.length=ss.length
 few:ss.length≤14
 nd:ss.Nodup
 lt:∀ a,ns.getD a 0 < 2 ^ ss.length
 nm:∀ s∈ss,j3 s=true
def WebAt (cw:Addr) (H:Hp) (x:Addr) (ss:List Str) (ns:List Nat):Prop:=∃ dx d ol n,H x=some (.ins cw dx (jR "near" (.ref n) (jR "order" (.ref ol) (jR "numbers" (.ref d) []))))∧H d=some (.dK (qaO ss 0))∧H ol=some (.lst (ss.map V.str))∧H n=some (.lst (qdh ns))∧WOk ss ns
theorem WebAt.same {cw x:Addr} {H H':Hp} {ss:List Str} {ns:List Nat} (h:WebAt cw H x ss ns) (s:L2.Same H H'):WebAt cw H' x ss ns:=by
 obtain ⟨dx,d,ol,n,h1,h2,h3,h4,h5⟩:=h
 exact ⟨dx,d,ol,n,s _ _ h1,s _ _ h2,s _ _ h3,s _ _ h4,h5⟩
def WebN (H0:Hp) (cw:Addr) (H:Hp) (x:Addr) (ss:List Str) (ns:List Nat):Prop:=∃ dx d ol n,H x=some (.ins cw dx (jR "near" (.ref n) (jR "order" (.ref ol) (jR "numbers" (.ref d) []))))∧H d=some (.dK (qaO ss 0))∧H ol=some (.lst (ss.map V.str))∧H n=some (.lst (qdh ns))∧WOk ss ns∧H0 d=none∧H0 ol=none∧H0 n=none
theorem WebN.web {H0:Hp} {cw x:Addr} {H:Hp} {ss:List Str} {ns:List Nat} (h:WebN H0 cw H x ss ns):WebAt cw H x ss ns:=by
 obtain ⟨dx,d,ol,n,h1,h2,h3,h4,h5,_⟩:=h
 exact ⟨dx,d,ol,n,h1,h2,h3,h4,h5⟩
def WebP (A:Addr→Prop) (cw:Addr) (H:Hp) (x:Addr) (ss:List Str) (ns:List Nat):Prop:=∃ dx d ol n,H x=some (.ins cw dx (jR "near" (.ref n) (jR "order" (.ref ol) (jR "numbers" (.ref d) []))))∧H d=some (.dK (qaO ss 0))∧H ol=some (.lst (ss.map V.str))∧H n=some (.lst (qdh ns))∧WOk ss ns∧¬ A x∧¬ A d∧¬ A ol∧¬ A n
theorem WebP.web {A:Addr→Prop} {cw x:Addr} {H:Hp} {ss:List Str} {ns:List Nat} (h:WebP A cw H x ss ns):WebAt cw H x ss ns:=by
 obtain ⟨dx,d,ol,n,h1,h2,h3,h4,h5,_⟩:=h
 exact ⟨dx,d,ol,n,h1,h2,h3,h4,h5⟩
theorem WebP.keep {A:Addr→Prop} {cw x:Addr} {H H':Hp} {ss:List Str} {ns:List Nat} (h:WebP A cw H x ss ns) (k:∀ b o,¬ A b→H b=some o→H' b=some o):WebP A cw H' x ss ns:=by
 obtain ⟨dx,d,ol,n,h1,h2,h3,h4,h5,a1,a2,a3,a4⟩:=h
 exact ⟨dx,d,ol,n,k _ _ a1 h1,k _ _ a2 h2,k _ _ a3 h3,k _ _ a4 h4,h5,a1,a2,a3,a4⟩
theorem qcu:∀ (ss:List Str) (i:Nat),(qaO ss i).map (fun kv=>kV kv.1)=ss.map V.str
 | [],_=>rfl
 | s::r,i=>congrArg (V.str s::·) (qcu r (i + 1))
def qeC (cc:Nat→Addr) (cw:Addr):Sp:=fun vs H Q E=>∃ (p x dx:Addr) (v:V) (o:Option (List V)) (v2:V) (o2:Option (List V)),vs=[.ref x,v,v2]∧H x=some (.ins cw dx [])∧Arg p H v o∧Arg p H v2 o2 ∧
 (∀ r,qfv H v o v2 o2=some r→∀ dy H',But x H H'→H' dy=some (.xd [(qa3 r.1,r.2)])→E (.ref (cc r.1)) (some dy) H')∧(qfv H v o v2 o2=none→∀ ns H',But x H H'→WebN H cw H' x ((o.getD []).map qH) ns→qa4 ((o.getD []).map qH) ns ((o2.getD []).filterMap (zv H ((o.getD []).map qH)))→Q .non H')
theorem Arg.but {p x dx C:Addr} {H H':Hp} {v:V} {o:Option (List V)} {fs:List (Str×V)} (h:Arg p H v o) (hx:H x=some (.ins C dx fs)) (b:But x H H'):Arg p H' v o∧∀ ss,qet H' ss v o=qet H ss v o:=by
 have hth:∀ {n:Nat} {v:V},Th p H n v→Th p (fun a=>if a=x then none else H a) n v:=by
  intro n v h
  induction h with
  | flat f l=>exact .flat f l
  | lst e ne h l ih=>exact .lst (by rw [if_neg (qa5 e hx (by intro z;cases z))];exact e) ne ih l
  | tup e ne h l ih=>exact .tup (by rw [if_neg (qa5 e hx (by intro z;cases z))];exact e) ne ih l
  | dct e ne=>exact .dct (by rw [if_neg (qa5 e hx (by intro z;cases z))];exact e) ne
 have h2:Arg p (fun a=>if a=x then none else H a) v o:=by
  cases h with
  | lst e ne h l=>exact .lst (by rw [if_neg (qa5 e hx (by intro z;cases z))];exact e) ne (fun x hx=>hth (h x hx)) l
  | tup e ne h l=>exact .tup (by rw [if_neg (qa5 e hx (by intro z;cases z))];exact e) ne (fun x hx=>hth (h x hx)) l
  | flat f l=>exact .flat f l
  | dct e ne=>exact .dct (by rw [if_neg (qa5 e hx (by intro z;cases z))];exact e) ne
 have k1:L2.Same (fun a=>if a=x then none else H a) H':=fun c u e=>by
  have e:(if c=x then none else H c)=some u:=e
  by_cases hc:c=x
  ·rw [if_pos hc] at e;cases e
  ·rw [if_neg hc] at e;exact b c u hc e
 have k2:L2.Same (fun a=>if a=x then none else H a) H:=fun c u e=>by
  have e:(if c=x then none else H c)=some u:=e
  by_cases hc:c=x
  ·rw [if_pos hc] at e;cases e
  ·rw [if_neg hc] at e;exact e
 exact ⟨h2.same k1,fun ss=>(qct h2 fun b o _ e=>k1 b o e).trans (qct h2 fun b o _ e=>k2 b o e).symm⟩
theorem qdk {α β:Type} {f g:α→Option β}:∀ {l:List α},(∀ x∈l,f x=g x)→l.filterMap f=l.filterMap g
 | [],_=>rfl
 | a::r,h=>by
  rw [List.filterMap_cons,List.filterMap_cons,h a List.mem_cons_self,qdk fun x hx=>h x (List.mem_cons_of_mem _ hx)]
theorem Arg.tie_but {p x dx C:Addr} {H H':Hp} {v:V} {o:Option (List V)} {fs:List (Str×V)} (h:Arg p H v o) (hx:H x=some (.ins C dx fs)) (b:But x H H') (y:V) (hy:y∈o.getD []) (ss:List Str):zv H' ss y=zv H ss y:=by
 cases o with
 | none=>cases hy
 | some xs =>
  have hth:=h.few.2 y hy
  cases hth with
  | flat f l=>cases y<;>first | rfl | cases f
  | lst e ne h l=>rw [jU (H:=H') (fun a zs z y=>by (cases z;rw [b _ _ (qa5 e hx (by intro z;cases z)) e] at y;cases y)),jU (H:=H) fun a zs z y=>by (cases z;rw [e] at y;cases y)]
  | tup e ne h l=>unfold zv;dsimp only;rw [b _ _ (qa5 e hx (by intro z;cases z)) e,e]
  | dct e ne=>rw [jU (H:=H') (fun a zs z y=>by (cases z;rw [b _ _ (qa5 e hx (by intro z;cases z)) e] at y;cases y)),jU (H:=H) fun a zs z y=>by (cases z;rw [e] at y;cases y)]
theorem ok_web (F:Fun K "__init__" "Web.__init__" zb f fd) (T:Txt K mg cc cw) (D_numbers_of:DefOk P w K mg base (CX1 P w) 4 "numbers_of" ["names"] (qe9 cc)) (D_near_of:DefOk P w K mg base (CX1 P w) 4 "near_of" ["numbers", "ties"] (qfa cc)) :
  FnOk P w K mg base (CX1 P w) 5 f fd ["self", "names", "ties"] (qeC cc cw):=by
 refine F.ok1 sc_Web_init (fun vs H Q E h=>?_) fun cdv A outer s H vs Q E hr h=>?_
 ·obtain ⟨p,x,dx,v,o,v2,o2,rfl,_⟩:=h;rfl
 ·obtain ⟨p,x,dx,v,o,v2,o2,rfl,hx,ha,ha2,hz,q⟩:=h
  have hu:=qah hr
  refine ⟨_,(qb (zw (K:=K) rfl (pv 0) (qag D_numbers_of (hmR hr) jl (qa (pv 1) qd)) rfl)
 (qb (zw (K:=K) rfl (pv 0) (zj (qbR (K:=K) rfl rfl) rfl T.b_list boot_list (qa (zW (K:=K) rfl (pv 0) rfl) qd)) rfl)
 (qf (zw (K:=K) rfl (pv 0) (qag D_near_of (hmR hr) jl (qa (zW (K:=K) rfl (pv 0) rfl) (qa (pv 2) qd))) rfl)))),?_⟩
  ext
  refine ⟨p,v,o,rfl,ha,fun r e=>?_,fun hN d H1 s1 hd0 hd=>?_⟩
  ·intro dy H' s' hy
   exact hz r (by unfold qfv;rw [e]) dy H' ((But.refl x H).same s') hy
  ·have hW:qfv H v o v2 o2=qet H ((o.getD []).map qH) v2 o2:=by unfold qfv;rw [hN]
   obtain ⟨xs,rfl,l14,_,allN,nd⟩:=outN_good hN
   rw [hW] at hz q
   have b1:=(But.refl x H).same s1
   have hx1:=s1 _ _ hx
   have ndx:d≠x:=qa5 hd hx1 (by intro z;cases z)
   ext
   refine .inl ⟨x,cw,dx,[],rfl,hx1,T.wcl,T.wn,by decide,?_⟩
   have b2:=b1.put (o:=.ins cw dx (jR "numbers" (.ref d) []))
   have hd2:upd H1 x (.ins cw dx (jR "numbers" (.ref d) [])) d=some (.dK (qaO (((some xs).getD []).map qH) 0)):=by rw [qh ndx];exact hd
   ext
   refine .inl ⟨x,cw,dx,_,.ref d,rfl,qc,T.wcl,T.wn,by rw [qC,if_pos rfl],?_⟩
   ext
   refine .inr (.inl ⟨d,_,rfl,hd2,fun ol ho=>?_⟩)
   have no:ol≠x:=fun e=>by subst e;rw [qc] at ho;cases ho
   have b3:=b2.new (o:=.lst ((qaO (((some xs).getD []).map qH) 0).map fun kv=>kV kv.1)) ho
   have nol:ol≠d:=fun e=>by rw [e,hd2] at ho;cases ho
   ext
   refine .inl ⟨x,cw,dx,_,rfl,(by rw [qh no.symm];exact qc),T.wcl,T.wo,Nat.lt_of_le_of_lt (zi _ _ _) (by decide),?_⟩
   have hd3:upd (upd (upd H1 x (.ins cw dx (jR "numbers" (.ref d) []))) ol (.lst ((qaO (((some xs).getD []).map qH) 0).map fun kv=>kV kv.1))) x (.ins cw dx (jR "order" (.ref ol) (jR "numbers" (.ref d) []))) d=some (.dK (qaO (((some xs).getD []).map qH) 0)):=by
    rw [qh ndx,qh (qE hd2 ho)];exact hd2
   have b4:=b3.put (o:=.ins cw dx (jR "order" (.ref ol) (jR "numbers" (.ref d) [])))
   ext
   refine .inl ⟨x,cw,dx,_,.ref d,rfl,qc,T.wcl,T.wn,by rw [qC,if_neg (by decide +kernel),qC,if_pos rfl],?_⟩
   ext
   obtain ⟨ha3,ho3⟩:=ha2.but hx b4
   refine ⟨p,d,_,v2,o2,rfl,hd3,by rw [ya];exact l14,nd,ha3,fun r e=>?_,fun e n ns H2 s2 hn0 hn hbits=>?_⟩
   ·intro dy H' s' hy
    rw [ho3] at e
    exact hz r e dy H' (b4.same s') hy
   ·rw [ho3] at e
    have b5:=b4.same s2
    ext
    refine .inl ⟨x,cw,dx,_,rfl,s2 _ _ qc,T.wcl,T.wr,Nat.lt_of_le_of_lt (zi _ _ _) (Nat.lt_of_le_of_lt (Nat.succ_le_succ (zi _ _ _)) (by decide)),?_⟩
    have hx2:=s2 _ _ (qc:upd (upd (upd H1 x (.ins cw dx (jR "numbers" (.ref d) []))) ol (.lst ((qaO (((some xs).getD []).map qH) 0).map fun kv=>kV kv.1))) x (.ins cw dx (jR "order" (.ref ol) (jR "numbers" (.ref d) []))) x=_)
    have nnx:n≠x:=qa5 hn hx2 (by intro z;cases z)
    have hd4:=s2 _ _ hd3
    have ho4:H2 ol=some (.lst ((qaO (((some xs).getD []).map qH) 0).map fun kv=>kV kv.1)):=s2 _ _ (by rw [qh no];exact qc)
    have eT:(((some xs).getD []).map qH)=(((some xs).getD []).map qH):=rfl
    have ebt:∀ y∈(o2.getD []),zv H (((some xs).getD []).map qH) y=zv (upd (upd (upd H1 x (.ins cw dx (jR "numbers" (.ref d) []))) ol (.lst ((qaO (((some xs).getD []).map qH) 0).map fun kv=>kV kv.1))) x (.ins cw dx (jR "order" (.ref ol) (jR "numbers" (.ref d) [])))) (((some xs).getD []).map qH) y:=fun y hy=>?tie
    have hol0:H ol=none:=by
     cases q':H ol with
     | none=>rfl
     | some o'=>rw [b2 ol o' no q'] at ho;cases ho
    have hn00:H n=none:=by
     cases q':H n with
     | none=>rfl
     | some o'=>rw [b4 n o' nnx q'] at hn0;cases hn0
    refine q e ns _ b5.put ⟨dx,d,ol,n,qc,by rw [qh ndx];exact hd4,by rw [qh no,ho4,qcu],by rw [qh nnx];exact hn,⟨hbits.1,by show (xs.map qH).length≤14;rw [ya];exact l14,nd,hbits.2.1,fun s hs=>by obtain ⟨y,hy,rfl⟩:=List.mem_map.mp hs;exact (qS (allN y hy)).2.1⟩,hd0,hol0,hn00⟩ ?_
    ·have:(o2.getD []).filterMap (zv H (((some xs).getD []).map qH))=(o2.getD []).filterMap (zv (upd (upd (upd H1 x (.ins cw dx (jR "numbers" (.ref d) []))) ol (.lst ((qaO (((some xs).getD []).map qH) 0).map fun kv=>kV kv.1))) x (.ins cw dx (jR "order" (.ref ol) (jR "numbers" (.ref d) [])))) (((some xs).getD []).map qH)):=qdk ebt
     rw [this]
     exact hbits
    case tie=>exact (ha2.tie_but hx b4 y hy _).symm
abbrev q9:Stmt:=jo (top 25) 4
theorem sc_Web_has_place:FnScope ["self", "thing"] ["self", "thing"] (qe q9):=fS
abbrev jc:Stmt:=jo (top 25) 6
theorem sc_Web_number_of:FnScope ["self", "place"] ["self", "place"] (qe jc):=fS
abbrev jE:Stmt:=jo (top 25) 7
theorem sc_Web_beside:FnScope ["self", "place"] ["self", "place"] (qe jE):=fS
abbrev qM:Stmt:=jo (top 25) 8
theorem sc_Web_bits_beside:FnScope ["self", "place"] ["self", "place"] (qe qM):=fS
abbrev zc:Stmt:=jo (top 25) 9
theorem sc_Web_tied:FnScope ["self", "one", "other", "bits"] ["self", "one", "other"] (qe zc):=fS
abbrev qW:Stmt:=jo (top 25) 12
theorem sc_Web_names_in:FnScope ["self", "bits"] ["self", "bits"] (qe qW):=fS
theorem zd {d ol n:V}:(jR "near" n (jR "order" ol (jR "numbers" d []))).lookup ("numbers":Str)=some d:=by
 rw [qC,if_neg (by decide +kernel),qC,if_neg (by decide +kernel),qC,if_pos rfl]
theorem qdl {d ol n:V}:(jR "near" n (jR "order" ol (jR "numbers" d []))).lookup ("order":Str)=some ol:=by
 rw [qC,if_neg (by decide +kernel),qC,if_pos rfl]
theorem lk_near {d ol n:V}:(jR "near" n (jR "order" ol (jR "numbers" d []))).lookup ("near":Str)=some n:=by
 rw [qC,if_pos rfl]
theorem qa7 {f:Str} {d ol n:V} (h:(f=="near"||f=="order"||f=="numbers")=false):(jR "near" n (jR "order" ol (jR "numbers" d []))).lookup f=none:=by
 simp only [Bool.or_eq_false_iff,beq_eq_false_iff_ne] at h
 rw [qC,if_neg h.1.1,qC,if_neg h.1.2,qC,if_neg h.2]
 rfl
theorem place_ix {ss:List Str} {v:V} (h:qF ss v=true):v=.str (qH v)∧∃ j,j < ss.length∧ss[j]?=some (qH v)∧zy (qaO ss 0) (.inr (qH v):Key)=some (.int (j:Nat)):=by
 obtain ⟨n1,m1⟩:=zo h
 obtain ⟨e1,_,_⟩:=qS n1
 obtain ⟨j,hj,gj,vj⟩:=zn (i:=0) m1
 rw [Nat.zero_add] at vj
 exact ⟨e1,j,hj,gj,vj⟩
def inB:List Str→Nat→Nat→List Str
 | [],_,_=>[]
 | s::r,i,b=>if b.testBit i=true then s::inB r (i + 1) b else inB r (i + 1) b
theorem qbc (y:Str) (b:Nat):∀ (l:List Str) (k:Nat),inB (l++[y]) k b=inB l k b++(if b.testBit (k + l.length)=true then [y] else [])
 | [],k=>by simp [inB]
 | s::r,k=>by
  have ih:=qbc y b r (k + 1)
  have e:k + 1 + r.length=k + (s::r).length:=by simp;omega
  rw [e] at ih
  simp only [List.cons_append,inB,ih]
  split<;>simp
theorem qbT (b:Nat):∀ (l:List Str) (k:Nat),(inB l k b).length≤l.length
 | [],_=>yh _
 | s::r,k=>by
  have ih:=qbT b r (k + 1)
  simp only [inB]
  split
  ·simp;omega
  ·simp;omega
def qfw (cw:Addr):Sp:=fun vs H Q _=>∃ (p:Addr) (k:Nat) (x:Addr) (ss:List Str) (ns:List Nat) (v:V),vs=[.ref x,v]∧WebAt cw H x ss ns∧Th p H k v∧∀ H',L2.Same H H'→Q (.bl (qF ss v)) H'
def qfx (cc:Nat→Addr) (cw:Addr):Sp:=fun vs H Q E=>∃ (p:Addr) (k:Nat) (x:Addr) (ss:List Str) (ns:List Nat) (v:V),vs=[.ref x,v]∧WebAt cw H x ss ns∧Th p H k v∧(qF ss v=false→Rz cc H E (2,v)) ∧
 ∀ j,ss[j]?=some (qH v)→qF ss v=true→∀ H',L2.Same H H'→Q (.int (j:Nat)) H'
def qgJ (cc:Nat→Addr) (cw:Addr):Sp:=fun vs H Q E=>∃ (p:Addr) (k:Nat) (x:Addr) (ss:List Str) (ns:List Nat) (v:V),vs=[.ref x,v]∧WebAt cw H x ss ns∧Th p H k v∧(qF ss v=false→Rz cc H E (2,v)) ∧
 ∀ j,ss[j]?=some (qH v)→qF ss v=true→∀ H',L2.Same H H'→Q (.int (ns.getD j 0:Nat)) H'
def qf6 (cw:Addr):Sp:=fun vs H Q _=>∃ (x:Addr) (ss:List Str) (ns:List Nat) (b:Nat),vs=[.ref x,.int b]∧WebAt cw H x ss ns∧∀ l,H l=none→Q (.ref l) (upd H l (.lst ((inB ss 0 b).map V.str)))
def qhc (cc:Nat→Addr) (cw:Addr):Sp:=fun vs H Q E=>∃ (p:Addr) (k:Nat) (x:Addr) (ss:List Str) (ns:List Nat) (v:V),vs=[.ref x,v]∧WebAt cw H x ss ns∧Th p H k v∧(qF ss v=false→Rz cc H E (2,v)) ∧
 ∀ j,ss[j]?=some (qH v)→qF ss v=true→∀ H',L2.Same H H'→∀ l,H' l=none→Q (.ref l) (upd H' l (.lst ((inB ss 0 (ns.getD j 0)).map V.str)))
def qfb (cc:Nat→Addr) (cw:Addr):Sp:=fun vs H Q E=>∃ (p:Addr) (k:Nat) (x:Addr) (ss:List Str) (ns:List Nat) (v u:V),vs=[.ref x,v,u]∧WebAt cw H x ss ns∧Th p H k v∧Th p H k u∧(qF ss v=false→Rz cc H E (2,v))∧(qF ss v=true→qF ss u=false→Rz cc H E (2,u)) ∧
 ∀ j i,ss[j]?=some (qH v)→ss[i]?=some (qH u)→qF ss v=true→qF ss u=true→∀ H',L2.Same H H'→Q (.bl ((ns.getD j 0).testBit i)) H'
theorem ok_has (F:Fun K "has_place" "Web.has_place" q9 f fd) (T:Txt K mg cc cw) (D_is_place:DefOk P w K mg base CX0 2 "is_place" ["numbers", "thing"] qcQ):FnOk P w K mg base CX0 3 f fd ["self", "thing"] (qfw cw):=by
 refine F.ok sc_Web_has_place (fun vs H Q E h=>?_) fun cdv A outer s H vs Q E hr h=>?_
 ·obtain ⟨p,k,x,ss,ns,v,rfl,_⟩:=h;rfl
 ·obtain ⟨p,k,x,ss,ns,v,rfl,⟨dx,d,ol,n,hx,hd,ho,hn,hw⟩,hv,q⟩:=h
  refine ⟨_,(qf (qp (qr D_is_place (hmR hr) qz (qa (zW (K:=K) rfl (pv 0) rfl) (qa (pv 1) qd))))),?_⟩
  ext
  refine .inl ⟨x,cw,dx,_,.ref d,rfl,hx,T.wcl,T.wn,zd,?_⟩
  ext
  exact ⟨p,k,d,ss,v,rfl,hd,hv,q⟩
theorem ok_num (F:Fun K "number_of" "Web.number_of" jc f fd) (T:Txt K mg cc cw) (D_Web_has_place:MethOk P w K mg base CX0 3 cw "has_place" ["self", "thing"] (qfw cw))
  (D_NoPlace:XMakeOk P w K mg base 2 (cc 2) "NoPlace" ["self", "found"] (spX (cc 2) (qa3 2))):FnOk P w K mg base (CX1 P w) 4 f fd ["self", "place"] (qfx cc cw):=by
 refine F.ok1 sc_Web_number_of (fun vs H Q E h=>?_) fun cdv A outer s H vs Q E hr h=>?_
 ·obtain ⟨p,k,x,ss,ns,v,rfl,_⟩:=h;rfl
 ·obtain ⟨p,k,x,ss,ns,v,rfl,hW,hv,hz,q⟩:=h
  have hu:=qah hr
  obtain ⟨dx,d,ol,n,hx,hd,ho,hn,hw⟩:=id hW
  refine ⟨_,(qb (qL (qZ (qK (zQ D_Web_has_place (hmR hr) (pv 0) (qa (pv 1) qd)))) (qf (zl (K:=K) rfl jl (qbk D_NoPlace (hmR hr) (qa (pv 1) qd)))) qq)
 (qf (qp (qx (qy (K:=K) rfl hu) (zW (K:=K) rfl (pv 0) rfl) (pv 1) (fun _ _=>rfl))))),?_⟩
  ext
  refine ⟨x,dx,_,rfl,hx,qa7 (by decide +kernel),?_⟩
  ext
  refine ⟨p,k,x,ss,ns,v,rfl,hW,hv,fun H1 s1=>?_⟩
  ext
  refine qI (fun h=>?_) fun h=>?_
  ·ext
   exact q8 (T.xat 2 (by decide)) ((hz (by simpa using h)).later s1)
  ·have hp:qF ss v=true:=by simpa using h
   obtain ⟨ev,j,hj,gj,vj⟩:=place_ix hp
   ext
   refine .inl ⟨x,cw,dx,_,.ref d,rfl,s1 _ _ hx,T.wcl,T.wn,zd,?_⟩
   ext
   refine .inr ⟨d,.int j,rfl,?_,q j gj hp H1 s1⟩
   have:=DGet.k (k:=Sum.inr (qH v)) (s1 _ _ hd)
   rw [vj] at this
   rw [ev]
   exact this
theorem ok_bb (F:Fun K "bits_beside" "Web.bits_beside" qM f fd) (T:Txt K mg cc cw) (D_Web_number_of:MethOk P w K mg base (CX1 P w) 4 cw "number_of" ["self", "place"] (qfx cc cw)):FnOk P w K mg base (CX1 P w) 5 f fd ["self", "place"] (qgJ cc cw):=by
 refine F.ok1 sc_Web_bits_beside (fun vs H Q E h=>?_) fun cdv A outer s H vs Q E hr h=>?_
 ·obtain ⟨p,k,x,ss,ns,v,rfl,_⟩:=h;rfl
 ·obtain ⟨p,k,x,ss,ns,v,rfl,hW,hv,hz,q⟩:=h
  have hu:=qah hr
  obtain ⟨dx,d,ol,n,hx,hd,ho,hn,hw⟩:=id hW
  refine ⟨_,(qf (qp (qx (qy (K:=K) rfl hu) (zW (K:=K) rfl (pv 0) rfl) (qba D_Web_number_of (hmR hr) jl (pv 0) (qa (pv 1) qd)) (fun _ _=>rfl)))),?_⟩
  ext
  refine .inl ⟨x,cw,dx,_,.ref n,rfl,hx,T.wcl,T.wr,lk_near,?_⟩
  ext
  refine ⟨x,dx,_,rfl,hx,qa7 (by decide +kernel),?_⟩
  ext
  refine ⟨p,k,x,ss,ns,v,rfl,hW,hv,hz,fun j gj hp H1 s1=>?_⟩
  exact .inl (zk (s1 _ _ hn) (qt (qbb (by rw [hw.len];exact (yc.mp gj).1))) (q j gj hp H1 s1))
theorem ok_nin (F:Fun K "names_in" "Web.names_in" qW f fd) (T:Txt K mg cc cw) (D_has_bit:DefOk P w K mg base CX0 1 "has_bit" ["bits", "number"] qeB):FnOk P w K mg base CX0 2 f fd ["self", "bits"] (qf6 cw):=by
 refine F.ok sc_Web_names_in (fun vs H Q E h=>?_) fun cdv A outer s H vs Q E hr h=>?_
 ·obtain ⟨x,ss,ns,b,rfl,_⟩:=h;rfl
 ·obtain ⟨x,ss,ns,b,rfl,⟨dx,d,ol,n,hx,hd,ho,hn,hw⟩,q⟩:=h
  have hu:=qah hr
  refine ⟨_,(qf (qp (qae (sc:=qe qW) (XN:=["self", "bits"]) ["name", "bits", "self"] 1 [1,0] rfl rfl rfl (by decide +kernel) rfl (by decide +kernel)
  (jK (K:=K) rfl (zW (K:=K) rfl (pv 0) rfl)) (fun _ _ _ _=>(qw (i:=0) (show (["name", "bits", "self"]:List Str).Nodup by decide +kernel) rfl (Or.inl rfl))) zO
  (fun _ _ _ _=>(qbN (qK (qr D_has_bit (hmR hr) qz (qa (pv 1) (qa (qx (qy (K:=K) rfl hu) (zW (K:=K) rfl (pv 2) rfl) (pv 0) (fun _ _=>rfl)) qd))))))
  (fun _ _ _ _=>(pv 0))))),?_⟩
  ext
  refine .inl ⟨x,cw,dx,_,.ref ol,rfl,hx,T.wcl,T.wo,qdl,?_⟩
  refine .inl ⟨⟨_,SqL.of ho⟩,qaf (K:=K) (fun i ys H'=>H'=H∧ys=(inB (ss.take i) 0 b).map V.str) ⟨rfl,by simp [inB]⟩ (fun i ys H' _ hp=>by rw [hp.1];exact SqL.of ho) (fun i y ys H' hy hp=>?_) fun ys H' hp=>?_⟩
  ·obtain ⟨rfl,rfl⟩:=hp
   have hi:i < ss.length:=by simpa using (yc.mp hy).1
   have gi:ss[i]?=some ss[i]:=yb hi
   generalize ss[i]=sy at gi
   have ey:y=.str sy:=by rw [yd,gi] at hy;cases hy;rfl
   subst ey
   obtain ⟨j,hj,gj,vj⟩:=zn (i:=0) (ye gi)
   rw [Nat.zero_add] at vj
   have hji:j=i:=qJ hw.nd gj gi
   subst hji
   have htk:ss.take (j + 1)=ss.take j++[sy]:=by rw [List.take_add_one,gi];rfl
   have hln:(ss.take j).length=j:=by rw [List.length_take];omega
   ext
   refine .inl ⟨x,cw,dx,_,.ref d,rfl,hx,T.wcl,T.wn,zd,?_⟩
   ext
   refine .inr ⟨d,.int j,rfl,?_,?_⟩
   ·have:=DGet.k (k:=Sum.inr sy) hd
    rw [vj] at this
    exact this
   ext
   refine ⟨_,_,rfl,by omega,?_⟩
   rw [qcR]
   ext
   have few:((inB (ss.take j) 0 b).map V.str).length < sizeLine:=by
    rw [ya]
    exact qk (yi (qbT _ _ _) (by rw [hln];have:=hw.few;omega))
   refine qI (fun hb=>?_) fun hb=>?_
   ·ext
    refine ⟨few,rfl,?_⟩
    rw [htk,qbc,hln,Nat.zero_add,if_pos hb]
    simp
   ·refine ⟨rfl,?_⟩
    rw [htk,qbc,hln,Nat.zero_add,if_neg hb]
    simp
  ·obtain ⟨rfl,rfl⟩:=hp
   have etk:ss.take (ss.map V.str).length=ss:=by rw [ya,List.take_length]
   rw [etk]
   refine ⟨?_,fun l hl=>q l hl⟩
   rw [ya]
   exact Nat.le_of_lt (qk (yi (qbT _ _ _) (by have:=hw.few;omega)))
theorem ok_bs (F:Fun K "beside" "Web.beside" jE f fd) (T:Txt K mg cc cw) (D_Web_bits_beside:MethOk P w K mg base (CX1 P w) 5 cw "bits_beside" ["self", "place"] (qgJ cc cw)) (D_Web_names_in:MethOk P w K mg base CX0 2 cw "names_in" ["self", "bits"] (qf6 cw)):FnOk P w K mg base (CX1 P w) 6 f fd ["self", "place"] (qhc cc cw):=by
 refine F.ok1 sc_Web_beside (fun vs H Q E h=>?_) fun cdv A outer s H vs Q E hr h=>?_
 ·obtain ⟨p,k,x,ss,ns,v,rfl,_⟩:=h;rfl
 ·obtain ⟨p,k,x,ss,ns,v,rfl,hW,hv,hz,q⟩:=h
  obtain ⟨dx,d,ol,n,hx,hd,ho,hn,hw⟩:=id hW
  refine ⟨_,(qf (qp (zQ D_Web_names_in (hmR hr) (pv 0) (qa (qba D_Web_bits_beside (hmR hr) jl (pv 0) (qa (pv 1) qd)) qd)))),?_⟩
  ext
  refine ⟨x,dx,_,rfl,hx,qa7 (by decide +kernel),?_⟩
  ext
  refine ⟨x,dx,_,rfl,hx,qa7 (by decide +kernel),?_⟩
  ext
  refine ⟨p,k,x,ss,ns,v,rfl,hW,hv,hz,fun j gj hp H1 s1=>?_⟩
  ext
  exact ⟨x,ss,ns,_,rfl,hW.same s1,q j gj hp H1 s1⟩
theorem ok_tied (F:Fun K "tied" "Web.tied" zc f fd) (T:Txt K mg cc cw) (D_Web_bits_beside:MethOk P w K mg base (CX1 P w) 5 cw "bits_beside" ["self", "place"] (qgJ cc cw)) (D_Web_number_of:MethOk P w K mg base (CX1 P w) 4 cw "number_of" ["self", "place"] (qfx cc cw))
  (D_has_bit:DefOk P w K mg base CX0 1 "has_bit" ["bits", "number"] qeB):FnOk P w K mg base (CX1 P w) 6 f fd ["self", "one", "other"] (qfb cc cw):=by
 refine F.ok1 sc_Web_tied (fun vs H Q E h=>?_) fun cdv A outer s H vs Q E hr h=>?_
 ·obtain ⟨p,k,x,ss,ns,v,u,rfl,_⟩:=h;rfl
 ·obtain ⟨p,k,x,ss,ns,v,u,rfl,hW,hv,hu',hz,hz2,q⟩:=h
  obtain ⟨dx,d,ol,n,hx,hd,ho,hn,hw⟩:=id hW
  refine ⟨_,(qb (qu (i:=3) sc_Web_tied.nd rfl (Or.inl rfl) (qba D_Web_bits_beside (hmR hr) jl (pv 0) (qa (pv 1) qd)))
 (qf (qp (qr D_has_bit (hmR hr) qz (qa (pv 3) (qa (qba D_Web_number_of (hmR hr) jl (pv 0) (qa (pv 2) qd)) qd)))))),?_⟩
  ext
  refine ⟨x,dx,_,rfl,hx,qa7 (by decide +kernel),?_⟩
  ext
  refine ⟨p,k,x,ss,ns,v,rfl,hW,hv,hz,fun j gj hp H1 s1=>?_⟩
  ext
  refine ⟨x,dx,_,rfl,s1 _ _ hx,qa7 (by decide +kernel),?_⟩
  ext
  refine ⟨p,k,x,ss,ns,u,rfl,hW.same s1,hu'.same s1,fun h=>(hz2 hp h).later s1,fun i gi hp2 H2 s2=>?_⟩
  ext
  refine ⟨_,_,rfl,by omega,?_⟩
  rw [qcR]
  exact q j i gj gi hp hp2 H2 (s1.trans s2)
inductive Rch (ns:List Nat) (i:Nat):Nat→Prop
 | base:Rch ns i i
 | step {a b:Nat} (h:Rch ns i a) (t:(ns.getD a 0).testBit b=true):Rch ns i b
structure All2 {α β:Type} (R:α→β→Prop) (l:List α) (m:List β):Prop where
 len:l.length=m.length
 at_:∀ (k:Nat) a b,l[k]?=some a→m[k]?=some b→R a b
theorem All2.nil {α β:Type} {R:α→β→Prop}:All2 R [] []:=⟨rfl,fun k a b h=>by simp at h⟩
theorem All2.mono {α β:Type} {R S:α→β→Prop} {l:List α} {m:List β} (h:All2 R l m) (f:∀ a b,R a b→S a b):All2 S l m:=⟨h.len,fun k a b x y=>f a b (h.at_ k a b x y)⟩
theorem All2.snoc {α β:Type} {R:α→β→Prop} {l:List α} {m:List β} {x:α} {y:β} (h:All2 R l m) (r:R x y):All2 R (l++[x]) (m++[y]):=by
 refine ⟨by rw [List.length_append,List.length_append,h.len];rfl,fun k a b ha hb=>?_⟩
 by_cases hk:k < l.length
 ·rw [List.getElem?_append_left hk] at ha
  rw [List.getElem?_append_left (by rw [← h.len];exact hk)] at hb
  exact h.at_ k a b ha hb
 ·rw [List.getElem?_append_right (by omega)] at ha
  rw [List.getElem?_append_right (by rw [← h.len];omega)] at hb
  have h0:k - l.length=0:=by
   have:=(yc.mp ha).1
   simp at this
   omega
  rw [← h.len] at hb
  rw [h0] at ha hb
  cases ha
  cases hb
  exact r
theorem All2.mem {α β:Type} {R:α→β→Prop} {l:List α} {m:List β} (h:All2 R l m) {x:α} (hx:x∈l):∃ y∈m,R x y:=by
 obtain ⟨k,hk,e⟩:=List.getElem_of_mem hx
 have hk':k < m.length:=by rw [← h.len];exact hk
 exact ⟨m[k],List.getElem_mem hk',h.at_ k x m[k] (by rw [yb hk,e]) (yb hk')⟩
open Classical in
theorem qeb {ss:List Str} (hn:ss.Nodup) {i:Nat} {s:Str} (h:ss[i]?=some s):ss.idxOf s=i:=by
 have hm:s∈ss:=ye h
 have hl:ss.idxOf s < ss.length:=List.idxOf_lt_length_of_mem hm
 exact qJ hn (by rw [yb hl,List.getElem_idxOf]) h
theorem qbH {ss:List Str} (hn:ss.Nodup) (b:Nat):inB ss 0 b=ss.filter fun s=>b.testBit (ss.idxOf s):=by
 have key:∀ k,k≤ss.length→inB (ss.take k) 0 b=(ss.take k).filter fun s=>b.testBit (ss.idxOf s):=fun k=>by
  induction k with
  | zero=>intro _;simp [inB]
  | succ k ih =>
   intro hk
   have gk:ss[k]?=some ss[k]:=yb (by omega)
   generalize ss[k]=sk at gk
   have htk:ss.take (k + 1)=ss.take k++[sk]:=by rw [List.take_add_one,gk];rfl
   have hln:(ss.take k).length=k:=by rw [List.length_take];omega
   rw [htk,qbc,List.filter_append,ih (by omega),hln,Nat.zero_add]
   congr 1
   rw [List.filter_cons,List.filter_nil,qeb hn gk]
 have:=key ss.length (yh _)
 rwa [List.take_length] at this
abbrev ze:Stmt:=jo (top 25) 2
theorem sc_Web_ties:FnScope ["self", "ties", "one", "other"] ["self"] (qe ze):=fS
theorem js {ss:List Str} {s:Str} (hs:s∈ss) (hn:j3 s=true):qF ss (.str s)=true:=by
 unfold qF
 rw [if_pos (show qat (.str s)=true from hn)]
 exact decide_eq_true hs
theorem j5 {s:Str} (h:j3 s=true):s.length≤6:=(qS (x:=.str s) h).2.2
theorem inB_mem {ss:List Str} (hn:ss.Nodup) {b:Nat} {s:Str} (h:s∈inB ss 0 b):s∈ss∧b.testBit (ss.idxOf s)=true:=by
 rw [qbH hn] at h
 exact yp.mp h
def qfy (ss:List Str) (ns:List Nat) (i:Nat):List (Str×Str):=((inB ss 0 (ns.getD i 0)).filter fun o=>decide (i < ss.idxOf o)).map fun o=>(ss.getD i "",o)
def zD (ss:List Str) (ns:List Nat) (i:Nat):List (Str×Str):=(List.range i).flatMap (qfy ss ns)
def PrAt (H H':Hp) (l:Addr) (t:Addr) (ab:Str×Str):Prop:=H t=none∧t≠l∧H' t=some (.tup [.str ab.1,.str ab.2])
theorem PrAt.same {H H1 H2:Hp} {l t:Addr} {ab:Str×Str} (h:PrAt H H1 l t ab) (s:L2.Same H1 H2):PrAt H H2 l t ab:=⟨h.1,h.2.1,s _ _ h.2.2⟩
def qhd (cw:Addr):Sp:=fun vs H Q _=>∃ (x:Addr) (ss:List Str) (ns:List Nat),vs=[.ref x]∧WebAt cw H x ss ns ∧
 ∀ (l:Addr) (ts:List Addr) (H':Hp),L2.Same H H'→H l=none→H' l=some (.lst (ts.map V.ref))→ts.length≤196→All2 (PrAt H H' l) ts (zD ss ns ss.length)→Q (.ref l) H'
theorem ok_ts (F:Fun K "ties" "Web.ties" ze f fd) (T:Txt K mg cc cw) (QD_Web_beside:MethOk P w K mg base CX0 6 cw "beside" ["self", "place"] (fun vs H Q _=>qhc cc cw vs H Q E0)):FnOk P w K mg base CX0 7 f fd ["self"] (qhd cw):=by
 refine F.ok sc_Web_ties (fun vs H Q E h=>?_) fun cdv A outer s H vs Q E hr h=>?_
 ·obtain ⟨x,ss,ns,rfl,_⟩:=h;rfl
 ·obtain ⟨x,ss,ns,rfl,hW,q⟩:=h
  have hu:=qah hr
  obtain ⟨dx,d,ol,n,hx,hd,ho,hn,hw⟩:=id hW
  have few:=hw.few
  have num:∀ (H1:Hp) (y:Str) (i:Nat),L2.Same H H1→ss[i]?=some y→DGet H1 d (.str y) (some (.int (i:Nat))):=fun H1 y i s1 gi=>by
   obtain ⟨j,hj,gj,vj⟩:=zn (i:=0) (ye gi)
   rw [Nat.zero_add] at vj
   have hji:j=i:=qJ hw.nd gj gi
   subst hji
   have:=DGet.k (k:=Sum.inr y) (s1 _ _ hd)
   rw [vj] at this
   exact this
  refine ⟨_,(qb (qu (i:=1) sc_Web_ties.nd rfl (Or.inl rfl) (jv qd))
 (qb (jm PassesOwn.never rfl (jK (K:=K) rfl (zW (K:=K) rfl (pv 0) rfl)) (qw (i:=2) sc_Web_ties.nd rfl (Or.inl rfl))
 (qf (jm PassesOwn.never rfl (jK (K:=K) rfl (zQ QD_Web_beside (hmR hr) (pv 0) (qa (pv 2) qd))) (qw (i:=3) sc_Web_ties.nd rfl (Or.inl rfl))
 (qf (qL (qv qdE (qx (qy (K:=K) rfl hu) (zW (K:=K) rfl (pv 0) rfl) (pv 2) (fun _ _=>rfl)) (qx (qy (K:=K) rfl hu) (zW (K:=K) rfl (pv 0) rfl) (pv 3) (fun _ _=>rfl)) (qA _)) (qf (qU (qdI (K:=K) rfl PySem.F.plainAttrs_list PySem.F.slot_list_append PySem.F.type_list_append jf (pv 1) (qa (jJ (qa (pv 2) (qa (pv 3) qd))) qd)))) qq)))))
 (qf (qp (pv 1))))),?_⟩
  ext
  refine ⟨by decide,fun l hl=>?_⟩
  have s0:=qX (Sr H) (o:=.lst []) hl
  ext
  refine .inl ⟨x,cw,dx,_,.ref ol,rfl,s0 _ _ hx,T.wcl,T.wo,qdl,?_⟩
  refine .inl ⟨⟨_,SqL.of (s0 _ _ ho)⟩,jq (K:=K) (fun i σ H'=>∃ (ts:List Addr) (x2 x3:Option V),σ=[some (.ref x),some (.ref l),x2,x3]∧L2.Same H H'∧H' l=some (.lst (ts.map V.ref))∧ts.length≤i * 14∧All2 (PrAt H H' l) ts (zD ss ns i))
   ⟨[],none,none,rfl,s0,qc,by simp,All2.nil⟩ (fun i σ H' _ hp=>by obtain ⟨_,_,_,_,z,_⟩:=hp;exact SqL.of (z _ _ ho)) (fun i y σ H1 hy hp=>?_) fun σ H1 hp=>?_⟩
  ·obtain ⟨ts,x2,x3,rfl,s1,hl1,hlen,hall⟩:=hp
   have hi:i < ss.length:=by simpa using (yc.mp hy).1
   have gi:ss[i]?=some ss[i]:=yb hi
   generalize ss[i]=sy at gi
   have ey:y=.str sy:=by rw [yd,gi] at hy;cases hy;rfl
   subst ey
   have hny:=hw.nm sy (ye gi)
   ext
   refine ⟨x,dx,_,rfl,s1 _ _ hx,qa7 (by decide +kernel),?_⟩
   ext
   refine ⟨x,0,x,ss,ns,.str sy,rfl,hW.same s1,Th.flat rfl (fun z e=>by cases e;have:=j5 hny;omega),(fun h=>by rw [js (ye gi) hny] at h;cases h),fun j gj _ H2 s2 b hb=>?_⟩
   have hji:j=i:=qJ hw.nd gj gi
   subst hji
   have s3:=s1.trans s2
   have s4:=qX s3 (o:=.lst ((inB ss 0 (ns.getD j 0)).map V.str)) hb
   have s24:=qX s2 (o:=.lst ((inB ss 0 (ns.getD j 0)).map V.str)) hb
   have eb:upd H2 b (.lst ((inB ss 0 (ns.getD j 0)).map V.str)) b=some (.lst ((inB ss 0 (ns.getD j 0)).map V.str)):=qc
   have nbl:b≠l:=fun e=>by rw [e,s2 _ _ hl1] at hb;cases hb
   have hb0:H b=none:=s3.free hb
   refine .inl ⟨⟨_,SqL.of qc⟩,?_⟩
   generalize upd H2 b (.lst ((inB ss 0 (ns.getD j 0)).map V.str))=H3 at s4 s24 eb ⊢
   have hmem:∀ o,o∈inB ss 0 (ns.getD j 0)→o∈ss:=fun o h=>(inB_mem hw.nd h).1
   have hbl:=qbT (ns.getD j 0) ss 0
   have edef:qfy ss ns j=((inB ss 0 (ns.getD j 0)).filter fun o=>decide (j < ss.idxOf o)).map fun o=>(ss.getD j "",o):=rfl
   have egd:ss.getD j ""=sy:=by simp [List.getD,gi]
   rw [egd] at edef
   generalize hbs:inB ss 0 (ns.getD j 0)=bs at eb hmem hbl edef ⊢
   refine jq (K:=K) (fun k σ H'=>∃ (us:List Addr) (x3:Option V),σ=[some (.ref x),some (.ref l),some (.str sy),x3]∧L2.Same H H'∧H' b=some (.lst (bs.map V.str))∧H' l=some (.lst (us.map V.ref))∧us.length≤j * 14 + k∧All2 (PrAt H H' l) us (zD ss ns j++((bs.take k).filter fun o=>decide (j < ss.idxOf o)).map fun o=>(sy,o)))
    ⟨ts,_,rfl,s4,eb,s24 _ _ hl1,hlen,by simpa using hall.mono fun _ _ h=>h.same s24⟩ (fun k σ H' _ hp=>by obtain ⟨_,_,_,_,z,_⟩:=hp;exact SqL.of z) (fun k u σ H5 hu5 hp=>?_) fun σ H5 hp=>?_
   ·obtain ⟨us,x3,rfl,s5,eb5,hl5,hlen5,hall5⟩:=hp
    have hk:k < bs.length:=by simpa using (yc.mp hu5).1
    have gk:bs[k]?=some bs[k]:=yb hk
    generalize bs[k]=so at gk
    have eu:u=.str so:=by rw [yd,gk] at hu5;cases hu5;rfl
    subst eu
    have hso:=hmem so (ye gk)
    have hil:=List.idxOf_lt_length_of_mem hso
    have gso:ss[ss.idxOf so]?=some so:=by rw [yb hil,List.getElem_idxOf]
    have htk:bs.take (k + 1)=bs.take k++[so]:=by rw [List.take_add_one,gk];rfl
    ext
    refine .inl ⟨x,cw,dx,_,.ref d,rfl,s5 _ _ hx,T.wcl,T.wn,zd,?_⟩
    ext
    refine .inr ⟨d,.int j,rfl,num H5 sy j s5 gi,?_⟩
    ext
    refine .inl ⟨x,cw,dx,_,.ref d,rfl,s5 _ _ hx,T.wcl,T.wn,zd,?_⟩
    ext
    refine .inr ⟨d,.int (ss.idxOf so:Nat),rfl,num H5 so _ s5 gso,?_⟩
    ext
    refine qI (fun hlt=>?_) fun hlt=>?_
    ·have hlt':j < ss.idxOf so:=by have:=yk hlt;omega
     ext
     refine ⟨.inl ⟨rfl,_,SqL.of hl5⟩,?_⟩
     ext
     refine ⟨by show 2≤sizeLine;decide,fun t ht=>?_⟩
     have nlt:l≠t:=qE hl5 ht
     have nbt:b≠t:=qE eb5 ht
     have s6:=qX (Sr H5) (o:=.tup [.str sy,.str so]) ht
     ext
     refine ⟨l,_,_,rfl,rfl,by rw [qh nlt];exact hl5,by rw [ya];exact qk (by have:j * 14≤14 * 14:=Nat.mul_le_mul_right 14 (by omega);omega),?_⟩
     refine ⟨us++[t],_,rfl,qbG (s5.trans s6) hl,by rw [qh nbl,qh nbt];exact eb5,by rw [qc,List.map_append];rfl,by rw [List.length_append];show us.length + 1≤_;omega,?_⟩
     rw [htk,List.filter_append,List.map_append,← List.append_assoc]
     have e1:([so].filter fun o=>decide (j < ss.idxOf o)).map (fun o=>(sy,o))=[(sy,so)]:=by simp [hlt']
     rw [e1]
     refine All2.snoc (hall5.mono fun t' ab h=>⟨h.1,h.2.1,?_⟩) ⟨s5.free ht,nlt.symm,?_⟩
     ·rw [qh h.2.1]
      exact s6 _ _ h.2.2
     ·rw [qh nlt.symm,qc]
    ·have hlt':¬ j < ss.idxOf so:=fun h=>hlt (decide_eq_true (by omega))
     refine ⟨us,_,rfl,s5,eb5,hl5,by omega,?_⟩
     have e1:([so].filter fun o=>decide (j < ss.idxOf o)).map (fun o=>(sy,o))=[]:=by simp [hlt']
     rw [htk,List.filter_append,List.map_append,e1,List.append_nil]
     exact hall5
   ·obtain ⟨us,x3,rfl,s5,eb5,hl5,hlen5,hall5⟩:=hp
    rw [ya,List.take_length] at hall5
    rw [ya] at hlen5
    refine ⟨us,_,_,rfl,s5,hl5,by omega,?_⟩
    unfold zD at hall5 ⊢
    rw [List.range_succ,List.flatMap_append]
    have e1:[j].flatMap (qfy ss ns)=(bs.filter fun o=>decide (j < ss.idxOf o)).map fun o=>(sy,o):=by rw [← edef];simp
    rw [e1]
    exact hall5
  ·obtain ⟨ts,x2,x3,rfl,s1,hl1,hlen,hall⟩:=hp
   rw [ya] at hlen hall
   ext
   exact q l ts H1 s1 hl hl1 (by have:ss.length * 14≤14 * 14:=Nat.mul_le_mul_right 14 few;omega) hall
def Box (H:Hp) (p:Addr):Prop:=∃ a b c:Int,H p=some (.lst [.int a,.int b,.int c])
def BB (p:Addr) (H H':Hp):Prop:=(∀ b o,b≠p→H b=some o→H' b=some o)∧Box H' p
def NewH (H H':Hp):Hp:=fun a=>match H a with | none=>H' a | some _=>none
theorem zE:∀ {l m:List Str},l.Nodup→(∀ x∈l,x∈m)→l.length≤m.length
 | [],_,_,_=>Nat.zero_le _
 | x::r,m,hn,h=>by
  obtain ⟨h1,h2⟩:=yo.mp hn
  have hx:=h x List.mem_cons_self
  have ih:=zE (l:=r) (m:=m.erase x) h2 fun y hy=>(List.mem_erase_of_ne (fun e=>h1 (by rw [← e];exact hy))).mpr (h y (List.mem_cons_of_mem _ hy))
  rw [List.length_erase_of_mem hx] at ih
  have:0 < m.length:=List.length_pos_of_mem hx
  simp only [List.length_cons]
  omega
theorem qec (c:Str) (ss:List Str):inV (.str c) (ss.map V.str)=decide (c∈ss):=by
 unfold inV
 rw [List.any_map,Bool.eq_iff_iff,List.any_eq_true,decide_eq_true_iff]
 constructor
 ·rintro ⟨y,hy,e⟩
  have:y=c:=eq_of_beq e
  rw [← this];exact hy
 ·intro h
  exact ⟨c,h,beq_self_eq_true c⟩
def signs:List Str:=("abcdefghijklmno":Str).cps.toList.map fun c=>⟨#[c]⟩
theorem slice_ix (k n:Nat):Builtin.Str.strSliceIndices none (some (k:Int)) 1 n=List.range (min k n):=by
 unfold Builtin.Str.strSliceIndices sliceRange
 simp only [show (1:Int) > 0 by decide,if_true]
 rw [if_neg (show ¬ ((k:Int) < 0) by omega)]
 have e1:max 0 (min (k:Int) n)=((min k n:Nat):Int):=by omega
 rw [e1]
 have e2:(fun (j:Nat)=>((0:Int) + 1 * (j:Int)).toNat)=id:=by funext j;show _=j;omega
 rw [e2,List.map_id]
 congr 1
 split
 ·rw [Int.ediv_one];omega
 ·omega
theorem qed (a:Array Nat):∀ m,m≤a.size→(List.range m).filterMap (a[·]?)=a.toList.take m
 | 0,_=>rfl
 | m + 1,h=>by
  rw [List.range_succ,List.filterMap_append,qed a m (by omega),List.take_add_one]
  congr 1
  have e:a[m]?=some a[m]:=Array.getElem?_eq_getElem (by omega)
  have e':a.toList[m]?=some a[m]:=by rw [Array.getElem?_toList];exact e
  rw [e',List.filterMap_cons,e]
  rfl
theorem qbI (z:Str) (k:Nat):(Txt.slice z none (some (k:Int))).cps.toList=z.cps.toList.take k:=by
 unfold Txt.slice
 rw [slice_ix]
 have hz:z.length=z.cps.toList.length:=by simp [Str.length]
 split
 ·rename_i h
  rw [List.length_range] at h
  have:min k z.length=z.length:=by simpa using h
  rw [List.take_of_length_le (by omega)]
 ·show (List.filterMap _ _).toArray.toList=_
  rw [qed z.cps (min k z.length) (Nat.min_le_right _ _)]
  show z.cps.toList.take (min k z.length)=_
  by_cases hk:k≤z.length
  ·rw [Nat.min_eq_left hk]
  ·rw [Nat.min_eq_right (by omega),List.take_of_length_le (by omega),List.take_of_length_le (by omega)]
theorem qaQ (a b:Str):(a++b).cps.toList=a.cps.toList++b.cps.toList:=by
 show (a.cps++b.cps).toList=_
 exact Array.toList_append
theorem qdm:∀ {xs:List Str},(∀ x∈xs,x.cps.toList.all sg=true)→(Str.join "" xs).cps.toList.all sg=true
 | [],_=>rfl
 | [x],h=>h x (by simp)
 | x::y::r,h=>by
  have e:Str.join "" (x::y::r)=x++""++Str.join "" (y::r):=rfl
  rw [e,qaQ,qaQ,List.all_append,List.all_append,h x (by simp),qdm fun z hz=>h z (List.mem_cons_of_mem _ hz)]
  decide +kernel
theorem qfz {c:Nat} (h:97≤c) (h2:c≤122):sg c=true:=by
 have key:∀ i,i < 26→sg (97 + i)=true:=by decide +kernel
 have:=key (c - 97) (by omega)
 rwa [show 97 + (c - 97)=c by omega] at this
theorem join_len {xs:List Str} (h:∀ x∈xs,x.length=1):(Txt.join "" xs).length=xs.length:=by
 have e:Txt.join "" xs=Str.join "" xs:=beq_iff_eq.mp (join_plain_closes "" xs)
 rw [e]
 cases xs with
 | nil=>rfl
 | cons a l =>
  rw [len_join_cons]
  have key:∀ l:List Str,(∀ x∈l,x.length=1)→(l.map (·.length)).sum=l.length:=by
   intro l
   induction l with
   | nil=>intro _;rfl
   | cons a l ih =>
    intro h
    rw [List.map_cons,List.sum_cons,h a List.mem_cons_self,ih fun x hx=>h x (List.mem_cons_of_mem _ hx),List.length_cons]
    omega
  have z:("":Str).length=0:=by decide +kernel
  rw [key _ h,z]
  omega
theorem qdn {xs:List Str} (h:∀ x∈xs,x.length=1):(xs.map (·.length)).sum=xs.length:=by
 induction xs with
 | nil=>rfl
 | cons a l ih =>
  rw [List.map_cons,List.sum_cons,h a List.mem_cons_self,ih fun x hx=>h x (List.mem_cons_of_mem _ hx),List.length_cons]
  omega
def Signs (p:Addr) (H:Hp) (i:Nat) (ys:List V) (H':Hp):Prop:=BB p H H'∧∃ xs:List Str,ys=xs.map V.str∧xs.length=i∧∀ x∈xs,x.length=1∧x.cps.toList.all sg=true
def L26:Str:="abcdefghijklmnopqrstuvwxyz"
theorem qee {i:Int} (h0:0≤i) (h1:i < 26):atI L26.cps.toList i=some (97 + i.toNat):=by
 obtain ⟨n,rfl⟩:=Int.eq_ofNat_of_zero_le h0
 have key:∀ n,n < 26→L26.cps.toList[n]?=some (97 + n):=by decide +kernel
 rw [Int.toNat_natCast]
 exact qt (key n (by omega))
theorem qdo {x:Str} {l:List Nat} (e:x.cps.toList=l) (h1:1≤l.length) (h6:l.length≤6) (h:l.all sg=true):j3 x=true:=by
 have hl:x.length=l.length:=by rw [← e];simp [Str.length]
 unfold j3
 rw [if_pos ⟨by omega,by omega⟩,e]
 exact h
theorem qcv {ss:List Str} (h:∀ (i j:Nat) (s:Str),ss[i]?=some s→ss[j]?=some s→i=j):ss.Nodup:=by
 refine List.pairwise_iff_getElem.mpr fun i j hi hj hij e=>?_
 have:=h i j ss[j] (by rw [yb hi,e]) (yb hj)
 omega
def NL (p:Addr) (H':Hp) (l:Addr) (ss:List Str):Prop:=H' l=some (.lst (ss.map V.str))∧l≠p
structure NOk (ss:List Str):Prop where
 few:ss.length≤14
 nd:ss.Nodup
 nm:∀ s∈ss,j3 s=true
def PrT (p:Addr) (H:Hp) (t:Addr) (ab:Str×Str):Prop:=t≠p∧H t=some (.tup [.str ab.1,.str ab.2])
def TL (p:Addr) (H:Hp) (l:Addr) (ts:List Addr) (tps:List (Str×Str)):Prop:=H l=some (.lst (ts.map V.ref))∧l≠p∧All2 (PrT p H) ts tps
theorem qcw {α β:Type} (f:α→β):∀ (l:List α) (k:Nat),(l.map f).eraseIdx k=(l.eraseIdx k).map f
 | [],_=>rfl
 | _::_,0=>rfl
 | a::r,k + 1=>congrArg (f a::·) (qcw f r k)
theorem All2.erase {α β:Type} {R:α→β→Prop} {l:List α} {m:List β} (h:All2 R l m) (k:Nat):All2 R (l.eraseIdx k) (m.eraseIdx k):=by
 refine ⟨by rw [List.length_eraseIdx,List.length_eraseIdx,h.len],fun j a b ha hb=>?_⟩
 rw [List.getElem?_eraseIdx] at ha hb
 split at ha
 ·rename_i hlt
  rw [if_pos hlt] at hb
  exact h.at_ j a b ha hb
 ·rename_i hlt
  rw [if_neg hlt] at hb
  exact h.at_ (j + 1) a b ha hb
structure TOk (ss:List Str) (tps:List (Str×Str)):Prop where
 few:tps.length≤30
 ok:∀ ab∈tps,∃ j k:Nat,j < k∧ss[j]?=some ab.1∧ss[k]?=some ab.2
 nd:tps.Nodup
def Shuf (tps ups:List (Str×Str)):Prop:=∃ qps,ups.Perm qps∧All2 (fun a b=>b=a∨b=(a.2,a.1)) tps qps
theorem ne_nil {K:W.Frag} {H:Hp} {l z:Addr} {xs:List V} {Q:VK} (hl:H l=some (.lst xs)) (hz:H z=some (.lst [])) (q:Q (.bl (!xs.isEmpty)) H):qe3 K true (.ref l) (.ref z) H Q:=by
 cases xs with
 | nil=>exact .inr (.inl ⟨l,z,true,1,rfl,rfl,by decide,EqT.lst (n:=0) (e:=fun _=>true) (SqL.of hl) (SqL.of hz) rfl fun j x y h=>by (simp at h),q⟩)
 | cons x r=>exact .inr (.inl ⟨l,z,false,1,rfl,rfl,by decide,EqT.lstL (SqL.of hl) (SqL.of hz) (by simp),q⟩)
theorem eqV_self {v:V} (h:zZ v=true):eqV v v=true:=by
 cases v<;>first | rfl | (simp [eqV];done) | cases h
theorem qdp (n:Nat):(List.range n).all (fun _=>true)=true:=by simp
theorem qdq {K:W.Frag} {H:Hp} {a b:Addr} {s t s' t':Str} (hb:H b=some (.tup [.str s',.str t'])) (ha:H a=some (.tup [.str s,.str t])):EqD K H 1 (.ref b) (.ref a) (decide ((s',t')=(s,t))):=by
 by_cases e:b=a
 ·subst e
  rw [hb] at ha
  cases ha
  rw [decide_eq_true rfl]
  exact .self
 ·have z:=EqT.tup (K:=K) (H:=H) (n:=0) (e:=fun j=>if j=0 then eqV (.str s') (.str s) else eqV (.str t') (.str t)) (SqT.of hb) (SqT.of ha) fun j x y hx hy=>by
   match j,hx,hy with
   | 0,hx,hy=>cases hx;cases hy;exact .flat rfl rfl
   | 1,hx,hy=>cases hx;cases hy;exact .flat rfl rfl
  have ev:((List.range (min [V.str s',V.str t'].length [V.str s,V.str t].length)).all (fun j=>if j=0 then eqV (.str s') (.str s) else eqV (.str t') (.str t))&&[V.str s',V.str t'].length==[V.str s,V.str t].length)=decide ((s',t')=(s,t)):=by
   show ((s'==s)&&((t'==t)&&true)&&true)=_
   rw [Bool.eq_iff_iff]
   simp
  rw [ev] at z
  exact .deep z e
def PL (H:Hp) (l:Addr) (ts:List Addr) (tps:List (Str×Str)):Prop:=H l=some (.lst (ts.map V.ref))∧All2 (fun t ab=>H t=some (.tup [.str ab.1,.str ab.2])) ts tps
theorem PL.same {l:Addr} {H H':Hp} {ts:List Addr} {tps:List (Str×Str)} (h:PL H l ts tps) (s:L2.Same H H'):PL H' l ts tps:=⟨s _ _ h.1,h.2.mono fun _ _ z=>s _ _ z⟩
def qdL (H:Hp) (z:V):Option (Str×Str):=match z with
 | .ref t=>(match H t with
  | some (.tup [.str a,.str b])=>some (a,b)
  | _=>none)
 | _=>none
theorem qbU {H:Hp} {t:Addr} {a b:Str} (h:H t=some (.tup [.str a,.str b])):qdL H (.ref t)=some (a,b):=by
 unfold qdL
 dsimp only
 rw [h]
theorem any_in {H:Hp} {ts:List Addr} {tps:List (Str×Str)} (h:All2 (fun t ab=>H t=some (.tup [.str ab.1,.str ab.2])) ts tps) (st:Str×Str):((ts.map V.ref).any fun z=>decide (qdL H z=some st))=decide (st∈tps):=by
 rw [Bool.eq_iff_iff,List.any_eq_true,decide_eq_true_iff]
 constructor
 ·rintro ⟨z,hz,e⟩
  obtain ⟨t,ht,rfl⟩:=List.mem_map.mp hz
  obtain ⟨ab,hab,r⟩:=h.mem ht
  have e:=yk e
  rw [qbU r] at e
  cases e
  exact hab
 ·intro hm
  obtain ⟨k,hk,e⟩:=List.getElem_of_mem hm
  have hk':k < ts.length:=by rw [h.len];exact hk
  have r:=h.at_ k ts[k] tps[k] (yb hk') (yb hk)
  refine ⟨.ref ts[k],List.mem_map.mpr ⟨_,List.getElem_mem hk',rfl⟩,decide_eq_true ?_⟩
  rw [qbU r,e]
theorem qeD {K:W.Frag} {H:Hp} {l a:Addr} {ts:List Addr} {tps:List (Str×Str)} {s t:Str} {Q:VK} (h:PL H l ts tps) (ha:H a=some (.tup [.str s,.str t])) (q:Q (.bl (decide ((s,t)∈tps))) H):qe4 K false (.ref a) (.ref l) H Q:=by
 refine .inr (.inr ⟨l,ts.map V.ref,fun z=>decide (qdL H z=some (s,t)),1,rfl,SqL.of h.1,by decide,fun z hz=>?_,?_⟩)
 ·obtain ⟨b,hb,rfl⟩:=List.mem_map.mp hz
  obtain ⟨ab,_,r⟩:=h.2.mem hb
  have e:=qdq (K:=K) r ha
  have ee:decide (qdL H (.ref b)=some (s,t))=decide ((ab.1,ab.2)=(s,t)):=by
   rw [qbU r]
   apply decide_eq_decide.mpr
   rw [Option.some.injEq]
  show EqD K H 1 (.ref b) (.ref a) (decide (qdL H (.ref b)=some (s,t)))
  rw [ee]
  exact e
 ·rw [any_in h.2]
  exact q
theorem eqT_two {H:Hp} {a b:Addr} {xs ys:List V} {n:Nat} (ha:H a=some (.lst xs)) (hb:H b=some (.lst ys)) (hl:xs.length=ys.length) (h:∀ (j:Nat) x y,xs[j]?=some x→ys[j]?=some y→EqD K H n x y true):EqT K H (n + 1) a b true:=by
 have z:=EqT.lst (K:=K) (H:=H) (n:=n) (e:=fun _=>true) (SqL.of ha) (SqL.of hb) hl h
 rw [qdp] at z
 exact z
theorem qdr {H:Hp} {l r:Addr} {ts us:List Addr} {tps:List (Str×Str)} (h:PL H l ts tps) (g:PL H r us tps):EqT K H 2 l r true:=by
 refine eqT_two h.1 g.1 (by rw [ya,ya,h.2.len,g.2.len]) fun j x y hx hy=>?_
 rw [yd] at hx hy
 cases hx':ts[j]? with
 | none=>rw [hx'] at hx;cases hx
 | some t =>
  cases hy':us[j]? with
  | none=>rw [hy'] at hy;cases hy
  | some u =>
   rw [hx'] at hx
   rw [hy'] at hy
   cases hx
   cases hy
   have hj:j < tps.length:=by rw [← h.2.len];exact (yc.mp hx').1
   have e:=qdq (K:=K) (h.2.at_ j t tps[j] hx' (yb hj)) (g.2.at_ j u tps[j] hy' (yb hj))
   rw [decide_eq_true rfl] at e
   exact e
def Adj (ss:List Str) (ns:List Nat) (tps:List (Str×Str)):Prop:=∀ a b s t,ss[a]?=some s→ss[b]?=some t→((ns.getD a 0).testBit b=true↔((s,t)∈tps∨(t,s)∈tps))
structure Wk (ss:List Str) (ns:List Nat) (k:Nat) (name:Str) (ps qs:List Str):Prop where
 nd:ps.Nodup
 has:name∈ps
 rch:∀ s∈ps,s∈ss∧Rch ns k (ss.idxOf s)
 sub:∀ s∈qs,s∈ps
theorem eqD_flat {H:Hp} {n:Nat} {x:V} (h:zZ x=true):EqD K H n x x true:=by
 have e:=EqD.flat (K:=K) (H:=H) (n:=n) h h
 rw [eqV_self h] at e
 exact e
theorem qf7 {te:TE} {K:W.Frag} {n:Nat} {gs:TGs} {D:Ends} {σ:L2.St} {H:Hp} (h:te σ H fun x H1=>qgk K n gs x σ H1 D.nx):qfD te (qgk K n gs) D σ H:=h
def UN (x y:Str×Str):Prop:=x≠y∧x≠(y.2,y.1)
theorem UN.symm {x y:Str×Str} (h:UN x y):UN y x:=⟨fun e=>h.1 e.symm,fun e=>h.2 (by rw [e])⟩
theorem TOk.un {ss:List Str} {tps:List (Str×Str)} (hn:ss.Nodup) (h:TOk ss tps):tps.Pairwise UN:=by
 have nd:=h.nd
 refine List.Pairwise.imp_of_mem (fun {a b} ha hb (hne:a≠b)=>⟨hne,fun e=>?_⟩) nd
 obtain ⟨j,k,h1,h2,h3⟩:=h.ok a ha
 obtain ⟨j',k',g1,g2,g3⟩:=h.ok b hb
 rw [e] at h2 h3
 have e1:=qJ hn h2 g3
 have e2:=qJ hn h3 g2
 omega
theorem Shuf.un {ss:List Str} {tps ups:List (Str×Str)} (hn:ss.Nodup) (h:TOk ss tps) (sh:Shuf tps ups):ups.Pairwise UN:=by
 obtain ⟨qps,hp,hA⟩:=sh
 have hu:=h.un hn
 refine hp.symm.pairwise ?_ fun h=>h.symm
 refine List.pairwise_iff_getElem.mpr fun i j hi hj hij=>?_
 have hi':i < tps.length:=by rw [hA.len];exact hi
 have hj':j < tps.length:=by rw [hA.len];exact hj
 have hu':=List.pairwise_iff_getElem.mp hu i j hi' hj' hij
 have ai:=hA.at_ i tps[i] qps[i] (yb hi') (yb hi)
 have aj:=hA.at_ j tps[j] qps[j] (yb hj') (yb hj)
 generalize tps[i]=a at hu' ai
 generalize tps[j]=b at hu' aj
 generalize qps[i]=c at ai
 generalize qps[j]=d at aj
 obtain ⟨a1,a2⟩:=a
 obtain ⟨b1,b2⟩:=b
 obtain ⟨h1,h2⟩:=hu'
 rcases ai with rfl | rfl<;>rcases aj with rfl | rfl<;>refine ⟨fun e=>?_,fun e=>?_⟩<;>dsimp only at e h1 h2<;>rw [Prod.mk.injEq] at e<;>simp only [ne_eq,Prod.mk.injEq] at h1 h2<;>first | exact h1 ⟨e.1,e.2⟩ | exact h2 ⟨e.1,e.2⟩ | exact h1 ⟨e.2,e.1⟩ | exact h2 ⟨e.2,e.1⟩
theorem Shuf.mem {tps ups:List (Str×Str)} (sh:Shuf tps ups) (s t:Str):((s,t)∈ups∨(t,s)∈ups)↔((s,t)∈tps∨(t,s)∈tps):=by
 obtain ⟨qps,hp,hA⟩:=sh
 rw [hp.mem_iff,hp.mem_iff]
 constructor
 ·have key:∀ c∈qps,c∈tps∨(c.2,c.1)∈tps:=fun c hc=>by
   obtain ⟨k,hk,e⟩:=List.getElem_of_mem hc
   have hk':k < tps.length:=by rw [hA.len];exact hk
   have a:=hA.at_ k tps[k] qps[k] (yb hk') (yb hk)
   rw [e] at a
   rcases a with a | a
   ·rw [a];exact .inl (List.getElem_mem hk')
   ·rw [a];exact .inr (List.getElem_mem hk')
  rintro (h | h)
  ·exact key _ h
  ·rcases key _ h with h | h
   ·exact .inr h
   ·exact .inl h
 ·have key:∀ c∈tps,c∈qps∨(c.2,c.1)∈qps:=fun c hc=>by
   obtain ⟨d,hd,r⟩:=hA.mem hc
   rcases r with r | r
   ·rw [← r];exact .inl hd
   ·rw [← r];exact .inr hd
  rintro (h | h)
  ·exact key _ h
  ·rcases key _ h with h | h
   ·exact .inr h
   ·exact .inl h
theorem Shuf.good {ss:List Str} {tps ups:List (Str×Str)} (h:TOk ss tps) (sh:Shuf tps ups):∀ ab∈ups,ab.1∈ss∧ab.2∈ss∧(ss.Nodup→ab.1≠ab.2):=fun ab hab=>by
 have:=(sh.mem ab.1 ab.2).mp (.inl hab)
 rcases this with h' | h'
 ·obtain ⟨j,k,h1,h2,h3⟩:=h.ok _ h'
  exact ⟨ye h2,ye h3,fun nd e=>by dsimp only at h2 h3;rw [e] at h2;have:=qJ nd h2 h3;omega⟩
 ·obtain ⟨j,k,h1,h2,h3⟩:=h.ok _ h'
  exact ⟨ye h3,ye h2,fun nd e=>by dsimp only at h2 h3;rw [e] at h3;have:=qJ nd h2 h3;omega⟩
theorem Shuf.len {tps ups:List (Str×Str)} (sh:Shuf tps ups):ups.length=tps.length:=by
 obtain ⟨qps,hp,hA⟩:=sh
 rw [hp.length_eq,hA.len]
theorem qef:∀ (l acc:List Str),(∀ s∈l,j3 s=true)→l.Nodup→(∀ s∈l,s∉acc)→qdK (l.map V.str) acc=none
 | [],_,_,_,_=>rfl
 | s::r,acc,hn,nd,hd=>by
  rw [List.map_cons,qcr,if_pos (show qat (.str s)=true from hn s List.mem_cons_self),if_neg (show ¬ qH (.str s)∈acc from hd s List.mem_cons_self)]
  show qdK (r.map V.str) (acc++[s])=none
  rw [yo] at nd
  refine qef r _ (fun t ht=>hn t (List.mem_cons_of_mem _ ht)) nd.2 fun t ht hm=>?_
  rcases List.mem_append.mp hm with h | h
  ·exact hd t (List.mem_cons_of_mem _ ht) h
  ·have:t=s:=List.mem_singleton.mp h
   rw [this] at ht
   exact nd.1 ht
theorem qcS {H:Hp} {ss:List Str} {t:Addr} {a b:Str} (e:H t=some (.tup [.str a,.str b])) (ha:qF ss (.str a)=true) (hb:qF ss (.str b)=true) (hne:a≠b):zv H ss (.ref t)=some (a,b):=by
 rw [qdf e,if_pos]
 ·rfl
 ·unfold qdJ
  rw [ha,hb]
  simp [qH,hne]
theorem qfc {H:Hp} {ss:List Str}:∀ (us:List Addr) (ups seen:List (Str×Str)),us.length=ups.length→(∀ (k:Nat) t ab,us[k]?=some t→ups[k]?=some ab→zv H ss (.ref t)=some ab)→(seen++ups).Pairwise UN→goT H ss (us.map V.ref) seen=none
 | [],_,_,_,_,_=>rfl
 | u::us,[],_,hl,_,_=>by cases hl
 | u::us,ab::ups,seen,hl,hc,hp=>by
  rw [List.map_cons,qdg (hc 0 u ab rfl rfl),if_neg]
  ·refine qfc us ups (seen++[ab]) (Nat.succ.inj hl) (fun k t cd h1 h2=>hc (k + 1) t cd (by simpa using h1) (by simpa using h2)) ?_
   rw [List.append_assoc]
   exact hp
  ·rw [List.pairwise_append] at hp
   rintro (h | h)
   ·exact (hp.2.2 ab h ab List.mem_cons_self).1 rfl
   ·exact (hp.2.2 _ h ab List.mem_cons_self).2 rfl
theorem qeg {H:Hp} {ss:List Str}:∀ (us:List Addr) (ups:List (Str×Str)),us.length=ups.length→(∀ (k:Nat) t ab,us[k]?=some t→ups[k]?=some ab→zv H ss (.ref t)=some ab)→(us.map V.ref).filterMap (zv H ss)=ups
 | [],[],_,_=>rfl
 | [],_::_,hl,_=>by cases hl
 | _::_,[],hl,_=>by cases hl
 | u::us,ab::ups,hl,hc=>by
  rw [List.map_cons,List.filterMap_cons,hc 0 u ab rfl rfl]
  exact congrArg (ab::·) (qeg us ups (Nat.succ.inj hl) fun k t cd h1 h2=>hc (k + 1) t cd (by simpa using h1) (by simpa using h2))
theorem zq (ss:List Str):(ss.map V.str).map qH=ss:=by
 rw [List.map_map]
 exact List.map_id ss
theorem make_ok {H:Hp} {ss:List Str} {v v2:V} {us:List Addr} {tps ups:List (Str×Str)} (hO:NOk ss) (hT:TOk ss tps) (sh:Shuf tps ups) (hc:All2 (fun t ab=>H t=some (.tup [.str ab.1,.str ab.2])) us ups) :
  qfv H v (some (ss.map V.str)) v2 (some (us.map V.ref))=none∧(us.map V.ref).filterMap (zv H ss)=ups:=by
 have pl:∀ s,s∈ss→qF ss (.str s)=true:=fun s hs=>js hs (hO.nm s hs)
 have tv:∀ (k:Nat) t ab,us[k]?=some t→ups[k]?=some ab→zv H ss (.ref t)=some ab:=fun k t ab h1 h2=>by
  obtain ⟨g1,g2,g3⟩:=sh.good hT ab (ye h2)
  exact qcS (hc.at_ k t ab h1 h2) (pl _ g1) (pl _ g2) (g3 hO.nd)
 have hN:qfG v (some (ss.map V.str))=none:=by
  show (if 14 < (ss.map V.str).length then _ else qdK (ss.map V.str) [])=none
  rw [if_neg (by rw [ya];have:=hO.few;omega)]
  exact qef ss [] hO.nm hO.nd (by simp)
 refine ⟨?_,qeg us ups hc.len tv⟩
 unfold qfv
 rw [hN]
 show qet H ((ss.map V.str).map qH) v2 (some (us.map V.ref))=none
 rw [zq]
 show (if 30 < (us.map V.ref).length then _ else (goT H ss (us.map V.ref) []).map _)=none
 rw [if_neg (by rw [ya,hc.len,sh.len];have:=hT.few;omega),qfc us ups [] hc.len tv (by simpa using sh.un hO.nd hT)]
 rfl
theorem But.out {x:Addr} {H H0 H':Hp} (b:But x H0 H') (s:L2.Same H H0) (hx:H x=none):L2.Same H H':=fun c o e=>b c o (fun z=>by subst z;rw [hx] at e;cases e) (s c o e)
def qeE (K:W.Frag):Sp:=fun vs H Q _=>∃ (a:Addr) (ns:List Int),vs=[.ref a]∧SqL K H a (ns.map V.int)∧ns.length≤63∧∀ H',Q (.bl true) H'
def qeF (l:Str):Str:=(PySem.Txt.partition l ":").1
def pMid (l:Str):Str:=(PySem.Txt.partition l ":").2.1
def pTail (l:Str):Str:=(PySem.Txt.partition l ":").2.2
def wds (l:Str):List Str:=PySem.Txt.split (pTail l) " "
def fw:List Str→Nat→List Str→Sum Nat (List Str)
 | [],_,acc=>.inr acc
 | l::r,k,acc=>if pMid l=""∨j3 (qeF l)=false∨qeF l∈acc∨14≤k then .inl k else fw r (k + 1) (acc++[qeF l])
def bel (ss:List Str):List Str→Nat→Bool
 | [],_=>true
 | w::r,k=>if w∈ss∧k < ss.idxOf w then bel ss r (ss.idxOf w) else false
def qhe (l:Str):List (Str×Str):=(wds l).tail.map fun o=>(qeF l,o)
def ti (ss:List Str):List Str→Nat→List (Str×Str)→Sum Nat (List (Str×Str))
 | [],_,acc=>.inr acc
 | l::r,k,acc=>if (wds l).headD ""≠""∨bel ss (wds l).tail k=false∨30 < (acc++qhe l).length then .inl k else ti ss r (k + 1) (acc++qhe l)
theorem WebN.old {H0 H1:Hp} {cw:Addr} {H:Hp} {x:Addr} {ss:List Str} {ns:List Nat} (h:WebN H1 cw H x ss ns) (s:L2.Same H0 H1):WebN H0 cw H x ss ns:=by
 obtain ⟨dx,d,ol,n,h1,h2,h3,h4,h5,a2,a3,a4⟩:=h
 exact ⟨dx,d,ol,n,h1,h2,h3,h4,h5,s.free a2,s.free a3,s.free a4⟩
abbrev qbJ:Stmt:=top 32
theorem sc_l_at:FnScope ["_law_script", "_law_k"] ["_law_script", "_law_k"] (qe qbJ):=fS
abbrev qaW:Stmt:=top 33
theorem sc_l_box:FnScope ["_law_cell"] ["_law_cell"] (qe qaW):=fS
abbrev qao:Stmt:=top 34
theorem sc_l_take:FnScope ["_law_box_here", "_law_many", "_law_digit", "_law_number", "_law_rest"] ["_law_box_here", "_law_many"] (qe qao):=fS
def qgK (K:W.Frag):Sp:=fun vs H Q _=>∃ (a:Addr) (ns:List Int) (k:Nat),vs=[.ref a,.int (k:Int)]∧SqL K H a (ns.map V.int)∧k < 1000∧∀ i:Int,Q (.int i) H
def Pn (N:Nat) (H:Hp) (p:Addr):Prop:=∃ a b c:Int,H p=some (.lst [.int a,.int b,.int c])∧0≤a∧0≤b∧b < 2147483629∧0≤c∧c + (N:Int)≤1099511627776
theorem Pn.mono {N M:Nat} {H:Hp} {p:Addr} (h:Pn N H p) (l:M≤N):Pn M H p:=by
 obtain ⟨a,b,c,e,h1,h2,h3,h4,h5⟩:=h
 exact ⟨a,b,c,e,h1,h2,h3,h4,by omega⟩
theorem Pn.same {N:Nat} {H H':Hp} {p:Addr} (h:Pn N H p) (s:L2.Same H H'):Pn N H' p:=by
 obtain ⟨a,b,c,e,r⟩:=h
 exact ⟨a,b,c,s _ _ e,r⟩
theorem Pn.new {N:Nat} {H:Hp} {p l:Addr} {o:HO} (h:Pn N H p) (hl:H l=none):Pn N (upd H l o) p:=h.same (qX (Sr H) hl)
theorem Pn.apart {N:Nat} {H:Hp} {p l:Addr} (h:Pn N H p) (hl:H l=none):l≠p:=fun z=>by obtain ⟨a,b,c,e,r⟩:=h;rw [z,e] at hl;cases hl
def qgL:Sp:=fun vs H Q _=>∃ c:Int,vs=[.int c]∧∀ (p:Addr) (H':Hp),L2.Same H H'→H p=none→Pn 1000000000000 H' p→Q (.ref p) H'
def qcT:Sp:=fun vs H Q _=>∃ (p:Addr) (m N:Nat),vs=[.ref p,.int (m:Int)]∧Pn (N + 1) H p∧0 < m∧m < 1000∧∀ (d:Nat) (H':Hp),d < m→But p H H'→Pn N H' p→Q (.int (d:Int)) H'
theorem But.trans7 {p:Addr} {H H1 H2:Hp} (a:But p H H1) (b:But p H1 H2):But p H H2:=fun c o n e=>b c o n (a c o n e)
theorem But.new7 {p l:Addr} {H H1:Hp} {o:HO} (a:But p H H1) (hl:H1 l=none):But p H (upd H1 l o):=fun c u n e=>by
 have:=a c u n e
 have ne:c≠l:=fun z=>by rw [z,hl] at this;cases this
 rw [qh ne];exact this
theorem But.free7 {p l:Addr} {H H1:Hp} (a:But p H H1) (hn:l≠p) (hl:H1 l=none):H l=none:=by
 cases e:H l with
 | none=>rfl
 | some o=>rw [a l o hn e] at hl;cases hl
abbrev iV (k:Nat):V:=.int (k:Int)
theorem ok_ce (F:Fun K "_law_at" "_law_at" qbJ f fd) (T:Txt K mg cc cw):FnOk P w K mg base CX0 1 f fd ["_law_script", "_law_k"] (qgK K):=by
 refine F.ok sc_l_at (fun vs H Q E h=>?_) fun cdv A outer s H vs Q E hr h=>?_
 ·obtain ⟨a,ns,k,rfl,_⟩:=h;rfl
 ·obtain ⟨a,ns,k,rfl,hS,h1,q⟩:=h
  have hu:=qah hr
  refine ⟨_,(qb (qL (qv qdE (pv 1) (qm (jX (K:=K) rfl) rfl T.b_len boot_len (qa (pv 0) qd)) (qA _)) (qf (qp (qx (qy (K:=K) rfl hu) (pv 0) (pv 1) (fun _ _=>rfl)))) qq)
 (qf (qp (qB (jY (K:=K) rfl) (qB qcI qg (pv 1)) qg)))),?_⟩
  ext
  refine vLenLs hS ?_
  rw [ya]
  ext
  by_cases hk:k < ns.length
  ·rw [decide_eq_true (show (k:Int) < (ns.length:Int) by omega)]
   refine j9 ?_
   ext
   refine .inl (vIxLs hS (v:=.int ns[k]) (qt (by rw [yd,yb hk];rfl)) ?_)
   exact q _
  ·rw [yl (show ¬ (k:Int) < (ns.length:Int) by omega)]
   refine yq ?_
   ext
   refine qcK (.inl ⟨by decide,by decide⟩) ?_
   ext
   exact q _
theorem ok_pu (F:Fun K "_law_box" "_law_box" qaW f fd) (T:Txt K mg cc cw):FnOk P w K mg base CX0 1 f fd ["_law_cell"] qgL:=by
 refine F.ok sc_l_box (fun vs H Q E h=>?_) fun cdv A outer s H vs Q E hr h=>?_
 ·obtain ⟨c,rfl,_⟩:=h;rfl
 ·obtain ⟨c,rfl,q⟩:=h
  refine ⟨_,(qf (qp (jv (qa (qm (call_max2 rfl) rfl T.b_max boot_max (qa qg (qa (qB qbx (pv 0) (qB op_pow qg qg)) qd))) (qa (qB qac (pv 0) qg) (qa qg qd)))))),?_⟩
  ext
  refine vI ⟨by decide,by decide,by decide⟩ ?_
  ext
  refine ⟨_,_,rfl,?_⟩
  ext
  refine vI (by decide) ?_
  ext
  refine ⟨by show 3≤sizeLine;decide,fun p hp=>?_⟩
  have h1:=Int.emod_nonneg c (show (2147483629:Int)≠0 by decide)
  have h2:=Int.emod_lt_of_pos c (show (0:Int) < 2147483629 by decide)
  exact q p _ (qX (Sr H) hp) hp ⟨_,_,_,qc,by split<;>omega,h1,h2,by decide,by decide⟩
theorem ok_tkp (F:Fun K "_law_take" "_law_take" qao f fd) (T:Txt K mg cc cw):FnOk P w K mg base CX0 1 f fd ["_law_box_here", "_law_many"] qcT:=by
 refine F.ok sc_l_take (fun vs H Q E h=>?_) fun cdv A outer s H vs Q E hr h=>?_
 ·obtain ⟨p,m,N,rfl,_⟩:=h;rfl
 ·obtain ⟨p,m,N,rfl,⟨a,b,c,hp,ha,hb,hb2,hc,hcN⟩,h0,h1,q⟩:=h
  have hu:=qah hr
  have hm:(0:Int) < (m:Int):=by omega
  refine ⟨_,(qb (jG (qB (jY (K:=K) rfl) (qx (qy (K:=K) rfl hu) (pv 0) qg (fun _ _=>rfl)) qg) (jV (pv 0) qg (jZ hu)))
 (qb (qL (qv qcD (qx (qy (K:=K) rfl hu) (pv 0) qg (fun _ _=>rfl)) qg (qA _)) (qb (qu (i:=2) sc_l_take.nd rfl (Or.inl rfl) (qB qac (qx (qy (K:=K) rfl hu) (pv 0) qg (fun _ _=>rfl)) (pv 1)))
 (qb (jG (qB qbL (qx (qy (K:=K) rfl hu) (pv 0) qg (fun _ _=>rfl)) (pv 1)) (jV (pv 0) qg (jZ hu)))
 (qf (qp (pv 2))))) qq)
 (qb (qu (i:=3) sc_l_take.nd rfl (Or.inl rfl) (qB qac (qB (jY (K:=K) rfl) (qB (jY (K:=K) rfl) (qB qcI (qx (qy (K:=K) rfl hu) (pv 0) qg (fun _ _=>rfl)) qg) (qB qcI qg (qx (qy (K:=K) rfl hu) (pv 0) qg (fun _ _=>rfl)))) qg) qg))
 (qb (qu (i:=4) sc_l_take.nd rfl (Or.inl rfl) (qB (jY (K:=K) rfl) (qB (jY (K:=K) rfl) (qB qbL (pv 3) qg) (qB qcI (qx (qy (K:=K) rfl hu) (pv 0) qg (fun _ _=>rfl)) (qx (qy (K:=K) rfl hu) (pv 0) qg (fun _ _=>rfl)))) qg))
 (qb (qu (i:=3) sc_l_take.nd rfl (Or.inl rfl) (qB qac (qB qcI (qB (jY (K:=K) rfl) (qB qac (pv 3) qg) qg) (pv 4)) qg))
 (qf (qp (qB qac (qB qbL (qB qac (qB qcI (pv 3) (qB (jY (K:=K) rfl) (qB qbL (pv 3) qg) qg)) qg) qg) (pv 1))))))))),?_⟩
  ext
  refine .inl (zk hp rfl ?_)
  ext
  refine .inl (qeA hp rfl ?_)
  have b1:But p H (upd H p (.lst [.int a,.int b,.int (c + 1)])):=fun x o n e=>by rw [qh n];exact e
  have hp1:upd H p (.lst [.int a,.int b,.int (c + 1)]) p=some (.lst [.int a,.int b,.int (c + 1)]):=qc
  have eu:upd H p (.lst (([V.int a,.int b,.int c]).set (2:Int).toNat (.int (c + 1))))=upd H p (.lst [.int a,.int b,.int (c + 1)]):=rfl
  ext
  rw [eu]
  generalize upd H p (.lst [.int a,.int b,.int (c + 1)])=H1 at b1 hp1
  refine .inl (zk hp1 rfl ?_)
  ext
  refine qI (fun hd=>?_) (fun hd=>?_)
  ·ext
   refine .inl (zk hp1 rfl ?_)
   ext
   refine vI hm ?_
   ext
   refine .inl (zk hp1 rfl ?_)
   ext
   refine vI ⟨hm,by omega⟩ ?_
   ext
   refine .inl (qeA hp1 rfl ?_)
   ext
   have e1:=Int.emod_nonneg a (show (m:Int)≠0 by omega)
   have e2:=Int.emod_lt_of_pos a hm
   have e3:a % (m:Int)=(((a % (m:Int)).toNat:Nat):Int):=by omega
   rw [e3]
   exact q _ _ (by omega) (fun x o n e=>by rw [qh n];exact b1 x o n e) ⟨_,_,_,qc,Int.ediv_nonneg ha (by omega),hb,hb2,by omega,by omega⟩
  ·ext
   refine .inl (zk hp1 rfl ?_)
   ext
   refine qcK (.inr ⟨by decide,by decide⟩) ?_
   ext
   refine .inl (zk hp1 rfl ?_)
   ext
   refine qcK (.inl ⟨by decide,by decide⟩) ?_
   ext
   refine vI (by decide) ?_
   ext
   generalize hn1:(b * 48271 + 6007 * (c + 1) + 29) % 2147483647=n1
   have hn1a:0≤n1:=by rw [← hn1];exact Int.emod_nonneg _ (by decide)
   have hn1b:n1 < 2147483647:=by rw [← hn1];exact Int.emod_lt_of_pos _ (by decide)
   refine vI ⟨by decide,by decide⟩ ?_
   ext
   refine .inl (zk hp1 rfl ?_)
   ext
   refine .inl (zk hp1 rfl ?_)
   refine qcK (.inl ⟨by omega,by omega⟩) ?_
   ext
   refine vI (by decide) ?_
   ext
   have hm1a:=Int.emod_nonneg n1 (show (65537:Int)≠0 by decide)
   have hm1b:=Int.emod_lt_of_pos n1 (show (0:Int) < 65537 by decide)
   refine qcK (.inl ⟨by omega,by omega⟩) ?_
   ext
   refine vI (by decide) ?_
   generalize hn2:(n1 % 65537 + 11) * (n1 / 65537 + (c + 1) * (c + 1) + 5) % 2147483587=n2
   have hn2a:0≤n2:=by rw [← hn2];exact Int.emod_nonneg _ (by decide)
   have hn2b:n2 < 2147483587:=by rw [← hn2];exact Int.emod_lt_of_pos _ (by decide)
   ext
   refine vI ⟨by decide,by decide⟩ ?_
   ext
   refine qcK (.inl ⟨by omega,by omega⟩) ?_
   ext
   refine vI (by decide) ?_
   ext
   refine vI ⟨by decide,by decide⟩ ?_
   ext
   refine vI hm ?_
   generalize n2 * (n2 / 1009 + 3) % 1000000007 / 13=n4
   have e1:=Int.emod_nonneg n4 (show (m:Int)≠0 by omega)
   have e2:=Int.emod_lt_of_pos n4 hm
   have e3:n4 % (m:Int)=(((n4 % (m:Int)).toNat:Nat):Int):=by omega
   rw [e3]
   exact q _ _ (by omega) b1 ⟨_,_,_,hp1,ha,hb,hb2,by omega,by omega⟩
abbrev jI:Stmt:=top 35
theorem sc_l_names:FnScope ["_law_box_here", "_law_many", "_law_letters", "_law_base", "_law_first", "_law_long", "_law_at_here", "_law_step", "_law_end", "_law_names_here", "_law_k", "_law_sign"] ["_law_box_here", "_law_many"] (qe jI):=fS
theorem qbV {X:L2.Cx} {st:List PySem.Stmt} {t:L2.TS} (t':L2.TS) (h:L2.PSs X st t) (k:∀ D σ H,t' D σ H→t D σ H):L2.PSs X st t':=fun pins s σ H D I q=>h pins s σ H D I (k D σ H q)
theorem qds (a b:Int):(if false=true then !eqV (V.int a) (V.int b) else eqV (V.int a) (V.int b))=decide (a=b):=by
 rw [if_neg (by decide)]
 unfold eqV
 by_cases h:a=b<;>simp [h]
theorem qf8 {K:W.Frag} {H:Hp} {i j:Int} {Q:VK} (q:Q (.bl (decide (i=j))) H):qfE K (.int i) (.int j) H Q:=.inl (.inl (.inl ⟨rfl,rfl,by rw [qds];exact q⟩))
def stepsA:List Nat:=[3,7,25]
def cA (first step j:Nat):Nat:=97 + (first + step * j) % 26
theorem cA_sg (first step j:Nat):sg (cA first step j)=true:=by unfold cA;exact qfz (by omega) (by omega)
theorem cA_inj {first step:Nat} (hs:step∈stepsA) {j k:Nat} (hj:j < 14) (hk:k < 14) (e:cA first step j=cA first step k):j=k:=by
 unfold cA at e
 simp only [stepsA,List.mem_cons,List.not_mem_nil,or_false] at hs
 rcases hs with rfl | rfl | rfl<;>omega
theorem zx (s:Str):s.length=s.cps.toList.length:=by simp [Str.length]
def qf9:Sp:=fun vs H Q _=>∃ (p:Addr) (m N:Nat),vs=[.ref p,.int (m:Int)]∧Pn (N + 16) H p∧m≤14∧∀ (l:Addr) (ss:List Str) (H':Hp),But p H H'→Pn N H' p→H l=none→l≠p→H' l=some (.lst (ss.map V.str))→NOk ss→ss.length=m→Q (.ref l) H'
theorem qeh {p:Addr} {n M:Nat} {x0:Option V} {H1:Hp} {Q:V→Hp→Prop} (hn:n≤100) (hB:Pn (M + n) H1 p) (q:∀ (zs:List Str) (J:Hp) (l:Addr),But p H1 J→Pn M J p→zs.length=n→(∀ x∈zs,x.length=1∧x.cps.toList.all sg=true)→J l=none→Q (.ref l) (upd J l (.lst (zs.map V.str)))) :
  qdH (Itr 0 n) (qbv 0) qgC (tOp (qg6 K) (qfH 1) (qcE qcT [] E0 (zK (qfH 2) (zK (tC (.int 26)) qc1)))) [x0,some (.str L26),some (.ref p)] H1 Q:=by
 refine qbC (lo:=0) (n:=n) (fun i ys J=>i≤n∧But p H1 J∧Pn (M + (n - i)) J p∧∃ xs:List Str,ys=xs.map V.str∧xs.length=i∧∀ x∈xs,x.length=1∧x.cps.toList.all sg=true) ⟨Nat.zero_le _,fun c o _ e=>e,hB,[],rfl,rfl,fun _ h=>by cases h⟩ (fun i ys J hi hs=>?_) fun ys J hs=>?_
 ·obtain ⟨_,bJ,hBJ,xs,rfl,hxl,hx1⟩:=hs
  ext
  refine j9 ?_
  ext
  refine ⟨p,26,M + (n - (i + 1)),rfl,hBJ.mono (by omega),by decide,by decide,fun r J2 hr2 b5 hB5=>?_⟩
  refine .inl (qgF (by decide +kernel) (qee (by omega) (by omega)) ?_)
  refine ⟨by rw [ya];exact qk (by omega),by omega,bJ.trans7 b5,hB5,xs++[_],by rw [List.map_append];rfl,by rw [List.length_append,hxl];rfl,fun x hx=>?_⟩
  rcases List.mem_append.mp hx with z | z
  ·exact hx1 x z
  ·rw [List.mem_singleton.mp z]
   refine ⟨rfl,?_⟩
   have:=qfz (c:=97 + r) (by omega) (by omega)
   simp [this]
 ·obtain ⟨_,bJ,hBJ,zs,rfl,hn',h1⟩:=hs
  exact ⟨by rw [ya];exact Nat.le_of_lt (qk (by omega)),fun l hl=>q zs J l bJ (hBJ.mono (by omega)) hn' h1 hl⟩
theorem qfd {zs:List Str} (h1:∀ x∈zs,x.length=1∧x.cps.toList.all sg=true):(Txt.join "" zs).length=zs.length∧(Txt.join "" zs).cps.toList.all sg=true:=by
 refine ⟨join_len fun x hx=>(h1 x hx).1,?_⟩
 have e:Txt.join "" zs=Str.join "" zs:=beq_iff_eq.mp (join_plain_closes "" zs)
 rw [e]
 exact qdm fun x hx=>(h1 x hx).2
theorem ok_nmA (F:Fun K "_law_names" "_law_names" jI f fd) (T:Txt K mg cc cw) (D_l_take:DefOk P w K mg base CX0 1 "_law_take" ["_law_box_here", "_law_many"] qcT):FnOk P w K mg base CX0 2 f fd ["_law_box_here", "_law_many"] qf9:=by
 refine F.ok sc_l_names (fun vs H Q E h=>?_) fun cdv A outer s H vs Q E hr h=>?_
 ·obtain ⟨p,m,N,rfl,_⟩:=h;rfl
 ·obtain ⟨p,m,N,rfl,hB,hm,q⟩:=h
  have hu:=qah hr
  obtain ⟨TC2,hTC2⟩:∃ t:TS,t=fun D σ H'=>(∀ u H',Q u H'→D.rt u H')∧∃ (x3 x4 x5 x6 x7 x8 x9 x10 x11:Option V),σ=[some (.ref p),some (.int (m:Int)),some (.str L26),x3,x4,x5,x6,x7,x8,x9,x10,x11]∧But p H H'∧Pn (N + 15) H' p:=⟨_,rfl⟩
  obtain ⟨TC8,hTC8⟩:∃ t:TS,t=fun D σ H'=>(∀ u H',Q u H'→D.rt u H')∧∃ (x5 x9 x10 x11:Option V) (base:Str) (first at_ step e:Nat),σ=[some (.ref p),some (.int (m:Int)),some (.str L26),some (.str base),some (.int (first:Int)),x5,some (.int (at_:Int)),some (.int (step:Int)),some (.str ⟨#[e]⟩),x9,x10,x11]∧But p H H'∧Pn N H' p∧step∈stepsA∧base.length≤4∧base.cps.toList.all sg=true∧at_≤base.length∧sg e=true:=⟨_,rfl⟩
  refine ⟨_,(qb (qu (i:=2) sc_l_names.nd rfl (Or.inr rfl) j8)
 (qb (qL (PW.pt (qav (qv qdE (pv 1) qg (qA _)) (qab (qv (qaz (K:=K) rfl hu) (qr D_l_take (hmR hr) qz (qa (pv 0) (qa qg qd))) qg (qA _))))) (qb (qu (i:=3) sc_l_names.nd rfl (Or.inr rfl) (qdI (K:=K) rfl PySem.F.plainAttrs_str PySem.F.slot_str_join PySem.F.type_str_join (qeT (K:=K) rfl) j8 (qa (qae (sc:=qe jI) (XN:=["_law_box_here", "_law_many", "_law_letters", "_law_base", "_law_first", "_law_long", "_law_at_here", "_law_step", "_law_end", "_law_names_here", "_law_k", "_law_sign"]) ["_law_k", "_law_letters", "_law_box_here"] 1 [2,0] rfl rfl rfl (by decide +kernel) rfl (by decide +kernel)
  (jw rfl T.b_range (qa qg qd)) (fun _ _ _ _=>(qw (i:=0) (show (["_law_k", "_law_letters", "_law_box_here"]:List Str).Nodup by decide +kernel) rfl (Or.inl rfl))) zO
  (fun _ _ _ _=>zP)
  (fun _ _ _ _=>(qx (qy (K:=K) rfl hu) (pv 1) (qr D_l_take (hmR hr) qz (qa (pv 2) (qa qg qd))) (fun _ _=>rfl)))) qd)))
 (qb (qu (i:=4) sc_l_names.nd rfl (Or.inr rfl) (qr D_l_take (hmR hr) qz (qa (pv 0) (qa qg qd))))
 (qf (qp (qae (sc:=qe jI) (XN:=["_law_box_here", "_law_many", "_law_letters", "_law_base", "_law_first", "_law_long", "_law_at_here", "_law_step", "_law_end", "_law_names_here", "_law_k", "_law_sign"]) ["_law_k", "_law_base", "_law_first"] 1 [3,4] rfl rfl rfl (by decide +kernel) rfl (by decide +kernel)
  (jw rfl T.b_range (qa (pv 1) qd)) (fun _ _ _ _=>(qw (i:=0) (show (["_law_k", "_law_base", "_law_first"]:List Str).Nodup by decide +kernel) rfl (Or.inl rfl))) zO
  (fun _ _ _ _=>zP)
  (fun _ _ _ _=>(jS (qes (K:=K) rfl) (pv 1) zL (jH (qB (jY (K:=K) rfl) qg (qB qac (qB (jY (K:=K) rfl) (pv 2) (pv 0)) qg)))))))))) qq)
 (qbV TC2 (qb (qu (i:=5) sc_l_names.nd rfl (Or.inl rfl) (qr D_l_take (hmR hr) qz (qa (pv 0) (qa qg qd))))
 (qb (qu (i:=3) sc_l_names.nd rfl (Or.inr rfl) (qdI (K:=K) rfl PySem.F.plainAttrs_str PySem.F.slot_str_join PySem.F.type_str_join (qeT (K:=K) rfl) j8 (qa (qae (sc:=qe jI) (XN:=["_law_box_here", "_law_many", "_law_letters", "_law_base", "_law_first", "_law_long", "_law_at_here", "_law_step", "_law_end", "_law_names_here", "_law_k", "_law_sign"]) ["_law_k", "_law_letters", "_law_box_here"] 1 [2,0] rfl rfl rfl (by decide +kernel) rfl (by decide +kernel)
  (jw rfl T.b_range (qa (pv 5) qd)) (fun _ _ _ _=>(qw (i:=0) (show (["_law_k", "_law_letters", "_law_box_here"]:List Str).Nodup by decide +kernel) rfl (Or.inl rfl))) zO
  (fun _ _ _ _=>zP)
  (fun _ _ _ _=>(qx (qy (K:=K) rfl hu) (pv 1) (qr D_l_take (hmR hr) qz (qa (pv 2) (qa qg qd))) (fun _ _=>rfl)))) qd)))
 (qb (qu (i:=6) sc_l_names.nd rfl (Or.inl rfl) (qr D_l_take (hmR hr) qz (qa (pv 0) (qa (qB (jY (K:=K) rfl) (qm (jX (K:=K) rfl) rfl T.b_len boot_len (qa (pv 3) qd)) qg) qd))))
 (qb (qu (i:=4) sc_l_names.nd rfl (Or.inr rfl) (qr D_l_take (hmR hr) qz (qa (pv 0) (qa qg qd))))
 (qb (qu (i:=7) sc_l_names.nd rfl (Or.inl rfl) (qx (qy (K:=K) rfl hu) (jv (qa qg (qa qg (qa qg qd)))) (qr D_l_take (hmR hr) qz (qa (pv 0) (qa qg qd))) (fun _ _=>rfl)))
 (qb (qu (i:=8) sc_l_names.nd rfl (Or.inl rfl) (qx (qy (K:=K) rfl hu) (pv 2) (qr D_l_take (hmR hr) qz (qa (pv 0) (qa qg qd))) (fun _ _=>rfl)))
 (qbV TC8 (qb (qu (i:=9) sc_l_names.nd rfl (Or.inl rfl) (jv qd))
 (qb (jm PassesOwn.never rfl (jw rfl T.b_range (qa (pv 1) qd)) (qw (i:=10) sc_l_names.nd rfl (Or.inl rfl))
 (qb (qu (i:=11) sc_l_names.nd rfl (Or.inl rfl) (qx (qy (K:=K) rfl hu) (pv 2) (qB qac (qB (jY (K:=K) rfl) (pv 4) (qB qcI (pv 7) (pv 10))) qg) (fun _ _=>rfl)))
 (qf (qU (qdI (K:=K) rfl PySem.F.plainAttrs_list PySem.F.slot_list_append PySem.F.type_list_append jf (pv 9) (qa (qB (jY (K:=K) rfl) (qB (jY (K:=K) rfl) (qB (jY (K:=K) rfl) (jS (qes (K:=K) rfl) (pv 3) zL (jH (pv 6))) (pv 11)) (jS (qes (K:=K) rfl) (pv 3) (jH (pv 6)) zL)) (qx (qy (K:=K) rfl hu) (jv (qa j8 (qa (pv 8) qd))) (qB qac (pv 10) qg) (fun _ _=>rfl))) qd))))))
 (qf (qp (pv 9))))) ?cut8))))))) ?cut2))),?_⟩
  case cut8 =>
   intro D σ H1 h
   rw [hTC8] at h
   obtain ⟨hD,x5,x9,x10,x11,base,first,at_,step,e,rfl,b1,hB1,hst,hbl,hba,hat,hse⟩:=h
   have lB:=zx base
   have hsb:0 < step∧step≤25:=by
    have h:=hst
    simp only [stepsA,List.mem_cons,List.not_mem_nil,or_false] at h
    omega
   have et:=qbI base at_
   have ed:=slice_drop base at_
   have lt:(Txt.slice base none (some (at_:Int))).length=at_:=by rw [zx,et,List.length_take];omega
   have ld:(Txt.slice base (some (at_:Int)) none).length=base.length - at_:=by rw [zx,ed,List.length_drop];omega
   ext
   refine ⟨by show 0≤sizeLine;decide,fun l hl=>?_⟩
   have hlp:=hB1.apart hl
   ext
   refine ⟨(m:Int),rfl,by omega,by omega,?_⟩
   rw [Int.toNat_natCast]
   refine jW (lo:=0) (n:=m) (fun i σ J=>∃ (ss:List Str) (x10 x11:Option V),σ=[some (.ref p),some (.int (m:Int)),some (.str L26),some (.str base),some (.int (first:Int)),x5,some (.int (at_:Int)),some (.int (step:Int)),some (.str ⟨#[e]⟩),some (.ref l),x10,x11]∧But p H1 J∧Pn N J p∧J l=some (.lst (ss.map V.str))∧ss.length=i∧∀ (j:Nat) s,ss[j]?=some s→j3 s=true∧s.cps.toList[at_]?=some (cA first step j)) ⟨[],_,_,rfl,But.new7 (fun c o _ e=>e) hl,hB1.new hl,qc,rfl,fun j s h=>by simp at h⟩ (fun i σ J hi hp=>?_) fun σ J hp=>?_
   ·obtain ⟨ss,x10,x11,rfl,bJ,hBJ,hl2,hsl0,hss⟩:=hp
    rw [Int.zero_add]
    ext
    refine qcK (.inl ⟨by omega,by omega⟩) ?_
    ext
    refine vI (by decide) ?_
    have ec:((first:Int) + (step:Int) * (i:Int)) % 26=(((first + step * i) % 26:Nat):Int):=by omega
    rw [ec]
    refine .inl (qgF (by decide +kernel) (qee (by omega) (by omega)) ?_)
    rw [Int.toNat_natCast]
    have hcJ:97 + (first + step * i) % 26=cA first step i:=rfl
    rw [hcJ]
    have sgc:=cA_sg first step i
    generalize hcc:cA first step i=cji at sgc
    have hapl:(ss.map V.str).length < sizeLine:=by rw [ya];exact qk (by omega)
    ext
    refine ⟨.inl ⟨rfl,_,.of hl2⟩,?_⟩
    ext
    refine qgG (Nat.le_of_lt (qk (by omega))) ?_
    ext
    refine qfs (by rw [lt];show _ + 1≤sizeLine;exact Nat.le_of_lt (qk (by omega))) ?_
    have e2:(Txt.slice base none (some (at_:Int))++(⟨#[cji]⟩:Str)).cps.toList=base.cps.toList.take at_++[cji]:=by rw [qaQ,et]
    have l2:(Txt.slice base none (some (at_:Int))++(⟨#[cji]⟩:Str)).length=at_ + 1:=by rw [zx,e2,List.length_append,List.length_take];simp only [List.length_cons,List.length_nil];omega
    generalize Txt.slice base none (some (at_:Int))++(⟨#[cji]⟩:Str)=s2 at e2 l2
    ext
    refine qgG (Nat.le_of_lt (qk (by omega))) ?_
    refine qfs (by rw [l2,ld];exact Nat.le_of_lt (qk (by omega))) ?_
    have e3:(s2++Txt.slice base (some (at_:Int)) none).cps.toList=base.cps.toList.take at_++[cji]++base.cps.toList.drop at_:=by rw [qaQ,ed,e2]
    have l3:(s2++Txt.slice base (some (at_:Int)) none).length=base.length + 1:=by rw [zx,e3];simp only [List.length_append,List.length_take,List.length_drop,List.length_cons,List.length_nil];omega
    generalize s2++Txt.slice base (some (at_:Int)) none=s3 at e3 l3
    ext
    refine ⟨by show 2≤sizeLine;decide,fun m2 hm2=>?_⟩
    have s4:=qX (Sr J) (o:=.lst [.str "",.str ⟨#[e]⟩]) hm2
    have em:upd J m2 (.lst [.str "",.str ⟨#[e]⟩]) m2=some (.lst [.str "",.str ⟨#[e]⟩]):=qc
    generalize upd J m2 (.lst [.str "",.str ⟨#[e]⟩])=J2 at s4 em
    ext
    refine vI (by decide) ?_
    have eI:(i:Int) % 2=((i % 2:Nat):Int):=by omega
    rw [eI]
    obtain ⟨z,hz,hzl,hza⟩:∃ z:Str,[V.str "",.str ⟨#[e]⟩][i % 2]?=some (.str z)∧z.length≤1∧z.cps.toList.all sg=true:=by
     have h2:i % 2=0∨i % 2=1:=by omega
     rcases h2 with h | h<;>rw [h]
     ·exact ⟨"",rfl,by decide,rfl⟩
     ·exact ⟨⟨#[e]⟩,rfl,yh _,by simp [hse]⟩
    refine .inl (zk em (v:=.str z) (qt hz) ?_)
    refine qfs (by rw [l3];exact Nat.le_of_lt (qk (by omega))) ?_
    have e4:(s3++z).cps.toList=base.cps.toList.take at_++[cji]++base.cps.toList.drop at_++z.cps.toList:=by rw [qaQ,e3]
    have l4:(s3++z).cps.toList.length=base.length + 1 + z.length:=by rw [e4];simp only [List.length_append,List.length_take,List.length_drop,List.length_cons,List.length_nil];rw [zx z];omega
    have hl5:=s4 _ _ hl2
    ext
    refine ⟨l,_,_,rfl,rfl,hl5,hapl,?_⟩
    have hlm:l≠p:=hlp
    have hHl:H1 l=none:=hl
    refine ⟨ss++[s3++z],_,_,rfl,fun c o hc ee=>?_,?_,by rw [qc,List.map_append];rfl,by rw [List.length_append,hsl0];rfl,fun j s' hj=>?_⟩
    ·rw [qh (fun z=>by rw [z,hHl] at ee;cases ee)]
     exact s4 _ _ (bJ c o hc ee)
    ·obtain ⟨a1,a2,a3,a4,a5⟩:=hBJ.same s4
     exact ⟨a1,a2,a3,by rw [qh (Ne.symm hlm)];exact a4,a5⟩
    ·by_cases hji:j < ss.length
     ·rw [List.getElem?_append_left hji] at hj
      exact hss j s' hj
     ·rw [List.getElem?_append_right (by omega)] at hj
      have e0:j - ss.length=0:=by
       have:=(yc.mp hj).1
       simp only [List.length_cons,List.length_nil] at this
       omega
      rw [e0] at hj
      cases hj
      have hji':j=i:=by omega
      rw [hji',hcc]
      refine ⟨qdo e4 (by rw [← e4,l4];omega) (by rw [← e4,l4];omega) ?_,?_⟩
      ·rw [List.all_append,List.all_append,List.all_append,hza]
       have t1:(base.cps.toList.take at_).all sg=true:=List.all_eq_true.mpr fun c hc=>List.all_eq_true.mp hba c (List.mem_of_mem_take hc)
       have t2:(base.cps.toList.drop at_).all sg=true:=List.all_eq_true.mpr fun c hc=>List.all_eq_true.mp hba c (List.mem_of_mem_drop hc)
       rw [t1,t2]
       simp [sgc]
      ·rw [e4,List.append_assoc,List.append_assoc,List.getElem?_append_right (by rw [List.length_take];omega),List.length_take]
       have:at_ - min at_ base.cps.toList.length=0:=by omega
       rw [this]
       rfl
   ·obtain ⟨ss,x10,x11,rfl,bJ,hBJ,hl2,hsl0,hss⟩:=hp
    ext
    refine hD _ _ (q l ss _ (b1.trans7 bJ) hBJ (b1.free7 hlp hl) hlp hl2 ⟨by omega,qcv fun j k s hj hk=>?_,fun s hs=>?_⟩ hsl0)
    ·have hj':j < ss.length:=(yc.mp hj).1
     have hk':k < ss.length:=(yc.mp hk).1
     have e1:=(hss j s hj).2
     rw [(hss k s hk).2] at e1
     exact (cA_inj hst (by omega) (by omega) (ym e1)).symm
    ·obtain ⟨j,hj⟩:=yf hs
     exact (hss j s hj).1
  case cut2 =>
   intro D σ H1 h
   rw [hTC2] at h
   obtain ⟨hD,x3,x4,x5,x6,x7,x8,x9,x10,x11,rfl,b1,hB1⟩:=h
   ext
   refine ⟨p,5,N + 14,rfl,hB1,by decide,by decide,fun lo H2 hlo b2 hB2=>?_⟩
   ext
   refine ⟨rfl,?_⟩
   ext
   refine ⟨(lo:Int),rfl,by omega,by omega,?_⟩
   rw [Int.toNat_natCast]
   refine qeh (M:=N + 10) (by omega) (hB2.mono (by omega)) fun zs J l bJ hBJ hzl hz1 hl=>?_
   ext
   obtain ⟨j1,j2⟩:=qfd hz1
   refine ⟨_,l,zs,rfl,rfl,SqL.of qc,by rw [qdn fun x hx=>(hz1 x hx).1,show ("":Str).length=0 by decide +kernel];omega,?_⟩
   rw [hzl] at j1
   generalize Txt.join "" zs=base at j1 j2 ⊢
   have b3:=(b1.trans7 b2).trans7 (bJ.new7 (o:=.lst (zs.map V.str)) hl)
   have hB3:Pn (N + 10) (upd J l (.lst (zs.map V.str))) p:=hBJ.new hl
   generalize upd J l (.lst (zs.map V.str))=H3 at b3 hB3
   ext
   refine qfY (Nat.le_of_lt (qk (by omega))) ?_
   ext
   refine ⟨p,base.length + 1,N + 9,rfl,hB3,by omega,by omega,fun at_ H4 hat b4 hB4=>?_⟩
   ext
   refine ⟨p,26,N + 8,rfl,hB4,by decide,by decide,fun first H5 hf b5 hB5=>?_⟩
   ext
   refine ⟨by show 3≤sizeLine;decide,fun m2 hm2=>?_⟩
   have hmp:=hB5.apart hm2
   have s6:=qX (Sr H5) (o:=.lst (stepsA.map iV)) hm2
   have em:upd H5 m2 (.lst (stepsA.map iV)) m2=some (.lst (stepsA.map iV)):=qc
   have eu:upd H5 m2 (.lst [V.int 3,V.int 7,V.int 25])=upd H5 m2 (.lst (stepsA.map iV)):=rfl
   rw [eu]
   generalize upd H5 m2 (.lst (stepsA.map iV))=H6 at s6 em
   ext
   refine ⟨p,3,N + 7,rfl,hB5.same s6,by decide,by decide,fun d H7 hd b7 hB7=>?_⟩
   obtain ⟨st,hst⟩:∃ st,stepsA[d]?=some st:=⟨_,yb hd⟩
   refine .inl (zk (b7 _ _ hmp em) (v:=iV st) (qt (by rw [yd,hst];rfl)) ?_)
   ext
   refine ⟨p,26,N + 6,rfl,hB7,by decide,by decide,fun e H8 he b8 hB8=>?_⟩
   refine .inl (qgF (by decide +kernel) (qee (by omega) (by omega)) ?_)
   rw [Int.toNat_natCast]
   ext
   rw [hTC8]
   exact ⟨hD,_,_,_,_,base,first,at_,st,97 + e,rfl,((((b3.trans7 b4).trans7 b5).trans7 fun c o _ e=>s6 c o e).trans7 b7).trans7 b8,hB8.mono (by omega),ye hst,by omega,j2,by omega,qfz (by omega) (by omega)⟩
  have rest:∀ J,But p H J→Pn (N + 15) J p→TC2 { nx:=fun _ H'=>Q .non H',rt:=Q } (List.set (L2.start ["_law_box_here", "_law_many", "_law_letters", "_law_base", "_law_first", "_law_long", "_law_at_here", "_law_step", "_law_end", "_law_names_here", "_law_k", "_law_sign"] [V.ref p,V.int (m:Int)]) 2 (some (V.str L26))) J:=fun J bJ hJ=>by
   rw [hTC2]
   exact ⟨fun _ _ z=>z,_,_,_,_,_,_,_,_,_,rfl,bJ,hJ⟩
  ext
  refine qI (fun h7=>?_) (fun h7=>?_)
  ·have h7':m < 7:=by have:=yk h7;omega
   ext
   refine ⟨p,4,N + 15,rfl,hB,by decide,by decide,fun d H1 hd b1 hB1=>?_⟩
   ext
   refine qf8 ?_
   ext
   refine qI (fun h0=>?_) (fun h0=>?_)
   ·ext
    refine ⟨rfl,?_⟩
    ext
    refine ⟨6,rfl,by decide,by decide,?_⟩
    refine qeh (n:=6) (M:=N + 9) (by omega) (hB1.mono (by omega)) fun zs J l bJ hBJ hzl hz1 hl=>?_
    ext
    obtain ⟨j1,j2⟩:=qfd hz1
    refine ⟨_,l,zs,rfl,rfl,SqL.of qc,by rw [qdn fun x hx=>(hz1 x hx).1,show ("":Str).length=0 by decide +kernel];omega,?_⟩
    rw [hzl] at j1
    generalize Txt.join "" zs=base at j1 j2 ⊢
    have b3:=b1.trans7 (bJ.new7 (o:=.lst (zs.map V.str)) hl)
    have hB3:Pn (N + 9) (upd J l (.lst (zs.map V.str))) p:=hBJ.new hl
    generalize upd J l (.lst (zs.map V.str))=H3 at b3 hB3
    ext
    refine ⟨p,6,N + 8,rfl,hB3,by decide,by decide,fun first H4 hf b4 hB4=>?_⟩
    ext
    refine ⟨(m:Int),rfl,by omega,by omega,?_⟩
    rw [Int.toNat_natCast]
    have lB:=zx base
    refine qbC (lo:=0) (n:=m) (fun i ys J=>J=H4∧∃ xs:List Str,ys=xs.map V.str∧xs.length=i∧∀ (j:Nat) x,xs[j]?=some x→x.length=1 + (first + j) % 6∧j3 x=true) ⟨rfl,[],rfl,rfl,fun j x h=>by simp at h⟩ (fun i ys J hi hs=>?_) fun ys J hs=>?_
    ·obtain ⟨rfl,xs,rfl,hxl,hx⟩:=hs
     rw [Int.zero_add]
     ext
     refine j9 ?_
     ext
     refine vI (by decide) ?_
     ext
     have e1:(1:Int) + ((first:Int) + (i:Int)) % 6=((1 + (first + i) % 6:Nat):Int):=by omega
     rw [e1]
     refine qgG (Nat.le_of_lt (qk (by omega))) ?_
     have et:=qbI base (1 + (first + i) % 6)
     generalize Txt.slice base none (some ((1 + (first + i) % 6:Nat):Int))=z at et
     have lz:z.length=1 + (first + i) % 6:=by rw [zx,et,List.length_take];omega
     refine ⟨by rw [ya];exact qk (by omega),rfl,xs++[z],by rw [List.map_append];rfl,by rw [List.length_append,hxl];rfl,fun j x hj=>?_⟩
     by_cases hji:j < xs.length
     ·rw [List.getElem?_append_left hji] at hj
      exact hx j x hj
     ·rw [List.getElem?_append_right (by omega)] at hj
      have e0:j - xs.length=0:=by
       have:=(yc.mp hj).1
       simp only [List.length_cons,List.length_nil] at this
       omega
      rw [e0] at hj
      cases hj
      have hji':j=i:=by omega
      rw [hji']
      refine ⟨lz,qdo rfl ?_ ?_ ?_⟩
      ·rw [← zx,lz];omega
      ·rw [← zx,lz];omega
      ·rw [et]
       exact List.all_eq_true.mpr fun c hc=>List.all_eq_true.mp j2 c (List.mem_of_mem_take hc)
    ·obtain ⟨rfl,xs,rfl,hxl,hx⟩:=hs
     refine ⟨by rw [ya];exact Nat.le_of_lt (qk (by omega)),fun l5 h5=>?_⟩
     have hlp:=hB4.apart h5
     refine q l5 xs _ ((b3.trans7 b4).new7 h5) ((hB4.mono (by omega)).new h5) ((b3.trans7 b4).free7 hlp h5) hlp qc ⟨by omega,qcv fun j k s hj hk=>?_,fun s hs=>?_⟩ hxl
     ·have hj':j < xs.length:=(yc.mp hj).1
      have hk':k < xs.length:=(yc.mp hk).1
      have e1:=(hx j s hj).1
      rw [(hx k s hk).1] at e1
      omega
     ·obtain ⟨j,hj⟩:=yf hs
      exact (hx j s hj).2
   ·ext
    exact rest H1 b1 hB1
  ·refine yq ?_
   ext
   exact rest H (fun c o _ e=>e) (hB.mono (by omega))
abbrev je:Stmt:=top 37
theorem sc_l_more_ties:FnScope ["_law_box_here", "_law_names_here", "_law_ties", "_law_k", "_law_one", "_law_others", "_law_other"] ["_law_box_here", "_law_names_here", "_law_ties"] (qe je):=fS
abbrev qap:Stmt:=top 38
theorem sc_l_tied:FnScope ["_law_ties", "_law_one", "_law_other"] ["_law_ties", "_law_one", "_law_other"] (qe qap):=fS
theorem qfe {K:W.Frag} {H:Hp} {l a:Addr} {ts:List Addr} {tps:List (Str×Str)} {s t:Str} {Q:VK} (h:PL H l ts tps) (ha:H a=some (.tup [.str s,.str t])) (q:Q (.bl (!decide ((s,t)∈tps))) H):qe4 K true (.ref a) (.ref l) H Q:=by
 have z:=qeD (K:=K) (Q:=fun v H'=>v=.bl (decide ((s,t)∈tps))∧H'=H) h ha ⟨rfl,rfl⟩
 rcases z with ⟨p,xs,e1,_,e2,_⟩ | ⟨p,o,e,g,e2,_⟩ | ⟨p,xs,e,n,e1,e2,e3,e4,e5,_⟩
 ·cases e2
 ·cases e
  rcases g with ⟨kvs,k,e | ⟨o',e⟩,_⟩ | ⟨kvs,k,b,e | ⟨o',e⟩,_⟩<;>(rw [h.1] at e;cases e)
 ·refine .inr (.inr ⟨p,xs,e,n,e1,e2,e3,e4,?_⟩)
  have e6:xs.any e=decide ((s,t)∈tps):=by
   have:=e5
   rw [if_neg (by decide)] at this
   cases e7:xs.any e<;>cases e8:decide ((s,t)∈tps)<;>rw [e7,e8] at this<;>first | rfl | (cases this)
  rw [if_pos rfl,e6]
  exact q
theorem qei (a b:Str):eqV (.str a) (.str b)=decide (a=b):=by
 unfold eqV
 by_cases h:a=b<;>simp [h]
theorem qhf {K:W.Frag} {H:Hp} {i j:Str} {Q:VK} (q:Q (.bl (decide (i=j))) H):qfE K (.str i) (.str j) H Q:=.inl (.inl (.inl ⟨rfl,rfl,by rw [if_neg (by decide),qei];exact q⟩))
theorem qhg {K:W.Frag} {H:Hp} {i j:Str} {Q:VK} (q:Q (.bl (!decide (i=j))) H):qe3 K true (.str i) (.str j) H Q:=.inl ⟨rfl,rfl,by rw [if_pos rfl,qei];exact q⟩
structure DT (ss:List Str) (tps:List (Str×Str)):Prop where
 few:tps.length≤30
 ok:∀ ab∈tps,ab.1∈ss∧ab.2∈ss∧ab.1≠ab.2
 nd:tps.Nodup
 one:∀ ab∈tps,(ab.2,ab.1)∉tps
theorem DT.nil (ss:List Str):DT ss []:=⟨Nat.zero_le _,(fun _ h=>by cases h),.nil,(fun _ h=>by cases h)⟩
theorem DT.snoc {ss:List Str} {tps:List (Str×Str)} {s t:Str} (h:DT ss tps) (hs:s∈ss) (ht:t∈ss) (hst:s≠t) (n1:(s,t)∉tps) (n2:(t,s)∉tps) (hl:tps.length < 30):DT ss (tps++[(s,t)]):=by
 refine ⟨by rw [List.length_append];simp;omega,fun ab hab=>?_,List.nodup_append.mpr ⟨h.nd,List.pairwise_singleton _ _,fun a ha b hb e=>?_⟩,fun ab hab hh=>?_⟩
 ·rcases List.mem_append.mp hab with z | z
  ·exact h.ok ab z
  ·rw [List.mem_singleton.mp z];exact ⟨hs,ht,hst⟩
 ·rw [List.mem_singleton.mp hb] at e;subst e;exact n1 ha
 ·rcases List.mem_append.mp hab with z | z<;>rcases List.mem_append.mp hh with y | y
  ·exact h.one ab z y
  ·have e:=List.mem_singleton.mp y
   have e1:ab=(t,s):=Prod.ext (congrArg Prod.snd e) (congrArg Prod.fst e)
   rw [e1] at z;exact n2 z
  ·rw [List.mem_singleton.mp z] at y;exact n2 y
  ·rw [List.mem_singleton.mp z] at y
   have e:=List.mem_singleton.mp y
   exact hst (congrArg Prod.snd e)
def qgq (p l:Addr) (H H':Hp):Prop:=∀ c o,c≠p→c≠l→H c=some o→H' c=some o
def qga:Sp:=fun vs H Q _=>∃ (p n l:Addr) (ss:List Str) (ts:List Addr) (tps:List (Str×Str)) (N:Nat),vs=[.ref p,.ref n,.ref l]∧Pn (N + 11) H p∧n≠p∧l≠p∧n≠l∧H n=some (.lst (ss.map V.str))∧NOk ss∧1 < ss.length∧PL H l ts tps∧DT ss tps ∧
 ∀ (ts':List Addr) (tps':List (Str×Str)) (H':Hp),qgq p l H H'→PL H' l ts' tps'→DT ss tps'→Q .non H'
def qfA:Sp:=fun vs H Q _=>∃ (l:Addr) (ts:List Addr) (tps:List (Str×Str)) (s t:Str),vs=[.ref l,.str s,.str t]∧PL H l ts tps∧∀ H',L2.Same H H'→Q (.bl (decide ((s,t)∈tps∨(t,s)∈tps))) H'
def qgb (K:W.Frag):Sp:=fun vs H Q _=>∃ (a:Addr) (ns:List Int),vs=[.ref a,.int 14]∧SqL K H a (ns.map V.int)∧ns.length≤63 ∧
 ∀ (t n l:Addr) (ss:List Str) (ts:List Addr) (tps:List (Str×Str)) (H':Hp),L2.Same H H'→H' t=some (.tup [.ref n,.ref l])→H n=none→H l=none→n≠l→H' n=some (.lst (ss.map V.str))→NOk ss→PL H' l ts tps→DT ss tps→Q (.ref t) H'
theorem ok_tdA (F:Fun K "_law_tied" "_law_tied" qap f fd) (T:Txt K mg cc cw):FnOk P w K mg base CX0 1 f fd ["_law_ties", "_law_one", "_law_other"] qfA:=by
 refine F.ok sc_l_tied (fun vs H Q E h=>?_) fun cdv A outer s H vs Q E hr h=>?_
 ·obtain ⟨l,ts,tps,s',t,rfl,_⟩:=h;rfl
 ·obtain ⟨l,ts,tps,s',t,rfl,hP,q⟩:=h
  have hu:=qah hr
  refine ⟨_,(qf (qp (pe_or (qV (qa6 (K:=K) rfl hu) (jJ (qa (pv 1) (qa (pv 2) qd))) (pv 0) (by with_unfolding_all rfl)) (qa0 (qV (qa6 (K:=K) rfl hu) (jJ (qa (pv 2) (qa (pv 1) qd))) (pv 0) (by with_unfolding_all rfl)))))),?_⟩
  ext
  refine ⟨by show 2≤sizeLine;decide,fun t1 ht1=>?_⟩
  have s1:=qX (Sr H) (o:=.tup [.str s',.str t]) ht1
  have e1:upd H t1 (.tup [.str s',.str t]) t1=some (.tup [.str s',.str t]):=qc
  generalize upd H t1 (.tup [.str s',.str t])=H1 at s1 e1
  ext
  refine qeD (hP.same s1) e1 ?_
  by_cases h1:(s',t)∈tps
  ·rw [decide_eq_true h1]
   have:=q H1 s1
   rw [decide_eq_true (.inl h1)] at this
   ext
   refine j9 ?_
   exact this
  ·rw [yl h1]
   ext
   refine yq ?_
   ext
   refine ⟨by show 2≤sizeLine;decide,fun t2 ht2=>?_⟩
   have s2:=qX (Sr H1) (o:=.tup [.str t,.str s']) ht2
   have e2:upd H1 t2 (.tup [.str t,.str s']) t2=some (.tup [.str t,.str s']):=qc
   generalize upd H1 t2 (.tup [.str t,.str s'])=H2 at s2 e2
   ext
   refine qeD ((hP.same s1).same s2) e2 ?_
   have:=q H2 (s1.trans s2)
   rwa [show decide ((s',t)∈tps∨(t,s')∈tps)=decide ((t,s')∈tps) from decide_eq_decide.mpr ⟨fun z=>z.resolve_left h1,.inr⟩] at this
theorem ok_mtA (F:Fun K "_law_more_ties" "_law_more_ties" je f fd) (T:Txt K mg cc cw) (D_l_take:DefOk P w K mg base CX0 1 "_law_take" ["_law_box_here", "_law_many"] qcT):FnOk P w K mg base CX0 2 f fd ["_law_box_here", "_law_names_here", "_law_ties"] qga:=by
 refine F.ok sc_l_more_ties (fun vs H Q E h=>?_) fun cdv A outer s H vs Q E hr h=>?_
 ·obtain ⟨p,n,l,ss,ts,tps,N,rfl,_⟩:=h;rfl
 ·obtain ⟨p,n,l,ss,ts,tps,N,rfl,hB,hnp,hlp,hnl,hn,hO,hs1,hP,hD,q⟩:=h
  have hu:=qah hr
  have hfew:=hO.few
  refine ⟨_,(qf (jm PassesOwn.never rfl (jw rfl T.b_range (qa (qx (qy (K:=K) rfl hu) (jv (qa qg (qa qg (qa qg (qa qg qd))))) (qr D_l_take (hmR hr) qz (qa (pv 0) (qa qg qd))) (fun _ _=>rfl)) qd)) (qw (i:=3) sc_l_more_ties.nd rfl (Or.inl rfl))
 (qb (qu (i:=4) sc_l_more_ties.nd rfl (Or.inr rfl) (qx (qy (K:=K) rfl hu) (pv 1) (qr D_l_take (hmR hr) qz (qa (pv 0) (qa (qm (jX (K:=K) rfl) rfl T.b_len boot_len (qa (pv 1) qd)) qd))) (fun _ _=>rfl)))
 (qb (qdX (sc:=qe je) (XN:=["_law_box_here", "_law_names_here", "_law_ties", "_law_k", "_law_one", "_law_others", "_law_other"]) ["_law_name", "_law_one"] 1 [4] rfl rfl rfl (by decide +kernel) rfl (by decide +kernel) (i:=5) sc_l_more_ties.nd rfl rfl
  (jK (K:=K) rfl (pv 1)) (fun _ _ _ _=>(qw (i:=0) (show (["_law_name", "_law_one"]:List Str).Nodup by decide +kernel) rfl (Or.inl rfl))) zO
  (fun _ _ _ _=>(qbN (qv (qaK (K:=K) rfl hu) (pv 0) (pv 1) (qA _))))
  (fun _ _ _ _=>(pv 0)))
 (qb (qu (i:=6) sc_l_more_ties.nd rfl (Or.inl rfl) (qx (qy (K:=K) rfl hu) (pv 5) (qr D_l_take (hmR hr) qz (qa (pv 0) (qa (qm (jX (K:=K) rfl) rfl T.b_len boot_len (qa (pv 5) qd)) qd))) (fun _ _=>rfl)))
 (qf (qL (PW.pt (qav (qv (jT (K:=K) rfl hu) (jJ (qa (pv 4) (qa (pv 6) qd))) (pv 2) (by with_unfolding_all rfl)) (qav (qv (jT (K:=K) rfl hu) (jJ (qa (pv 6) (qa (pv 4) qd))) (pv 2) (by with_unfolding_all rfl)) (qab (qv qdE (qm (jX (K:=K) rfl) rfl T.b_len boot_len (qa (pv 2) qd)) qg (qA _)))))) (qf (qU (qdI (K:=K) rfl PySem.F.plainAttrs_list PySem.F.slot_list_append PySem.F.type_list_append jf (pv 2) (qa (jJ (qa (pv 4) (qa (pv 6) qd))) qd)))) qq))))))),?_⟩
  ext
  refine ⟨by show 4≤sizeLine;decide,fun m2 hm2=>?_⟩
  have hmp:=hB.apart hm2
  have s1:=qX (Sr H) (o:=.lst [.int 1,.int 1,.int 2,.int 5]) hm2
  have em:upd H m2 (.lst [.int 1,.int 1,.int 2,.int 5]) m2=some (.lst [.int 1,.int 1,.int 2,.int 5]):=qc
  generalize upd H m2 (.lst [.int 1,.int 1,.int 2,.int 5])=H1 at s1 em
  ext
  refine ⟨p,4,N + 10,rfl,hB.same s1,by decide,by decide,fun d H2 hd b2 hB2=>?_⟩
  obtain ⟨tu,htu,htu5⟩:∃ tu:Nat,[V.int 1,.int 1,.int 2,.int 5][d]?=some (.int (tu:Int))∧tu≤5:=by
   have h4:d=0∨d=1∨d=2∨d=3:=by omega
   rcases h4 with rfl | rfl | rfl | rfl
   ·exact ⟨1,rfl,by decide⟩
   ·exact ⟨1,rfl,by decide⟩
   ·exact ⟨2,rfl,by decide⟩
   ·exact ⟨5,rfl,by decide⟩
  refine .inl (zk (b2 _ _ hmp em) (v:=.int (tu:Int)) (qt htu) ?_)
  ext
  refine ⟨(tu:Int),rfl,by omega,by omega,?_⟩
  rw [Int.toNat_natCast]
  have b02:But p H H2:=fun c o hc e=>b2 c o hc (s1 c o e)
  refine jW (lo:=0) (n:=tu) (fun i σ J=>i≤tu∧qgq p l H J∧Pn (N + 2 * (tu - i)) J p∧(∃ ts' tps',PL J l ts' tps'∧DT ss tps')∧∃ y3 y4 y5 y6,σ=[some (.ref p),some (.ref n),some (.ref l),y3,y4,y5,y6]) ⟨Nat.zero_le _,fun c o hc _ e=>b02 c o hc e,hB2.mono (by omega),⟨ts,tps,⟨b02 _ _ hlp hP.1,hP.2.mono fun t ab z=>b02 _ _ (fun e=>by obtain ⟨u,v,w,e2,_⟩:=hB;rw [e,e2] at z;cases z) z⟩,hD⟩,_,_,_,_,rfl⟩ (fun i σ J hi hp=>?_) fun σ J hp=>?_
  ·obtain ⟨_,bJ,hBJ,⟨ts',tps',hPJ,hDJ⟩,y3,y4,y5,y6,rfl⟩:=hp
   have hnJ:=bJ _ _ hnp hnl hn
   ext
   refine qaU hnJ ?_
   rw [ya]
   ext
   refine ⟨p,ss.length,N + 2 * (tu - i) - 1,rfl,hBJ.mono (by omega),by omega,by omega,fun d1 J1 hd1 b1 hB1=>?_⟩
   obtain ⟨s',hs'⟩:∃ s',ss[d1]?=some s':=⟨_,yb hd1⟩
   have hn1:=b1 _ _ hnp hnJ
   refine .inl (zk hn1 (v:=.str s') (qt (by rw [yd,hs'];rfl)) ?_)
   ext
   refine .inl ⟨⟨_,.of hn1⟩,qaf (xs:=ss.map V.str) (fun i ys G=>G=J1∧ys=((ss.take i).filter fun x=>decide (x≠s')).map V.str) ⟨rfl,rfl⟩ (fun i ys G _ hp'=>by rw [hp'.1];exact .of hn1) (fun i y ys G hy hp'=>?_) fun ys G hp'=>?_⟩
   ·obtain ⟨rfl,rfl⟩:=hp'
    rw [yd] at hy
    obtain ⟨x,hx,rfl⟩:=yn.mp hy
    have hi2:i < ss.length:=(yc.mp hx).1
    have hl3:((ss.take i).filter fun x=>decide (x≠s')).length≤14:=yi (List.length_filter_le _ _) (by rw [List.length_take];omega)
    rw [List.take_add_one,hx,List.filter_append]
    ext
    refine qhg ?_
    refine ⟨_,rfl,qI (fun ho=>?_) (fun ho=>?_)⟩
    ·ext
     refine ⟨by rw [ya];exact qk (by omega),rfl,?_⟩
     have ho':x≠s':=fun e=>by rw [e] at ho;simp at ho
     show _=List.map V.str (_++[x].filter _)
     rw [List.filter_cons,if_pos (decide_eq_true ho'),List.map_append]
     rfl
    ·refine ⟨rfl,?_⟩
     have ho':x=s':=by
      cases e:decide (x=s') with
      | true=>exact yk e
      | false=>rw [e] at ho;exact absurd rfl ho
     show _=List.map V.str (_++[x].filter _)
     rw [List.filter_cons,if_neg (by rw [ho'];simp),List.filter_nil,List.append_nil]
   ·obtain ⟨rfl,rfl⟩:=hp'
    rw [show (ss.map V.str).length=ss.length from ya ..,List.take_length]
    have hl3:(ss.filter fun x=>decide (x≠s')).length≤14:=yi (List.length_filter_le _ _) (by omega)
    have hmo:∀ x∈ss.filter fun x=>decide (x≠s'),x∈ss∧x≠s':=fun x hx=>⟨(yp.mp hx).1,yk (yp.mp hx).2⟩
    have hpo:0 < (ss.filter fun x=>decide (x≠s')).length:=by
     obtain ⟨y,hy,hne⟩:∃ y∈ss,y≠s':=by
      refine Classical.byContradiction fun hno=>?_
      have hall:∀ y∈ss,y=s':=fun y hy=>Classical.byContradiction fun hne=>hno ⟨y,hy,hne⟩
      match ss,hs1,hO.nd,hall with
      | a::b::r,_,hnd,hall =>
       have e1:=hall a (by simp)
       have e2:=hall b (by simp)
       rw [e1,e2] at hnd
       simp at hnd
     exact List.length_pos_of_mem (yp.mpr ⟨hy,decide_eq_true hne⟩)
    generalize (ss.filter fun x=>decide (x≠s'))=os at hl3 hmo hpo
    refine ⟨by rw [ya];exact Nat.le_of_lt (qk (by omega)),fun g hg=>?_⟩
    have hgp:=hB1.apart hg
    have s3:=qX (Sr G) (o:=.lst (os.map V.str)) hg
    have eg:upd G g (.lst (os.map V.str)) g=some (.lst (os.map V.str)):=qc
    generalize upd G g (.lst (os.map V.str))=J2 at s3 eg
    ext
    refine qaU eg ?_
    rw [ya]
    ext
    refine ⟨p,os.length,N + 2 * (tu - i) - 2,rfl,(hB1.same s3).mono (by omega),by omega,by omega,fun d2 J3 hd2 b3 hB3=>?_⟩
    obtain ⟨t',ht'⟩:∃ t',os[d2]?=some t':=⟨_,yb hd2⟩
    refine .inl (zk (b3 _ _ hgp eg) (v:=.str t') (qt (by rw [yd,ht'];rfl)) ?_)
    obtain ⟨ht1,ht2⟩:=hmo t' (ye ht')
    have bG3:But p J J3:=(b1.trans7 fun c o _ e=>s3 c o e).trans7 b3
    have tupn:∀ {t:Addr} {ab:Str×Str},J t=some (.tup [.str ab.1,.str ab.2])→t≠p:=fun z e=>by obtain ⟨u,v,w,e2,_⟩:=hBJ;rw [e,e2] at z;cases z
    have hP3:PL J3 l ts' tps':=⟨bG3 _ _ hlp hPJ.1,hPJ.2.mono fun t ab z=>bG3 _ _ (tupn z) z⟩
    have bJ3:qgq p l H J3:=fun c o h1 h2 e=>bG3 _ _ h1 (bJ c o h1 h2 e)
    ext
    refine ⟨by show 2≤sizeLine;decide,fun t1 ht1'=>?_⟩
    have s4:=qX (Sr J3) (o:=.tup [.str s',.str t']) ht1'
    have e4:upd J3 t1 (.tup [.str s',.str t']) t1=some (.tup [.str s',.str t']):=qc
    generalize upd J3 t1 (.tup [.str s',.str t'])=J4 at s4 e4
    ext
    refine qfe (hP3.same s4) e4 ?_
    have fin:∀ (G5:Hp),L2.Same J3 G5→i + 1≤tu∧qgq p l H G5∧Pn (N + 2 * (tu - (i + 1))) G5 p∧(∃ ts' tps',PL G5 l ts' tps'∧DT ss tps')∧∃ y3 y4 y5 y6,[some (V.ref p),some (V.ref n),some (V.ref l),some (V.int (0 + (i:Int))),some (.str s'),some (.ref g),some (.str t')]=[some (V.ref p),some (V.ref n),some (V.ref l),y3,y4,y5,y6]:=fun G5 s5 =>
     ⟨hi,fun c o h1 h2 e=>s5 _ _ (bJ3 c o h1 h2 e),(hB3.same s5).mono (by omega),⟨ts',tps',hP3.same s5,hDJ⟩,_,_,_,_,rfl⟩
    ext
    refine qI (fun h1=>?_) (fun h1=>?_)
    ·ext
     refine ⟨by show 2≤sizeLine;decide,fun t2 ht2'=>?_⟩
     have s5:=qX (Sr J4) (o:=.tup [.str t',.str s']) ht2'
     have e5:upd J4 t2 (.tup [.str t',.str s']) t2=some (.tup [.str t',.str s']):=qc
     generalize upd J4 t2 (.tup [.str t',.str s'])=J5 at s5 e5
     have s35:=s4.trans s5
     ext
     refine qfe (hP3.same s35) e5 ?_
     ext
     refine qI (fun h2=>?_) (fun h2=>?_)
     ·ext
      refine qaU ((hP3.same s35).1) ?_
      rw [ya,hP3.2.len]
      ext
      refine qI (fun h3=>?_) (fun h3=>?_)
      ·have h3':tps'.length < 30:=by have:=yk h3;omega
       ext
       refine ⟨.inl ⟨rfl,_,.of (hP3.same s35).1⟩,?_⟩
       ext
       refine ⟨by show 2≤sizeLine;decide,fun t3 ht3=>?_⟩
       have s6:=qX s35 (o:=.tup [.str s',.str t']) ht3
       have e6:upd J5 t3 (.tup [.str s',.str t']) t3=some (.tup [.str s',.str t']):=qc
       generalize upd J5 t3 (.tup [.str s',.str t'])=J6 at s6 e6
       have hP6:=hP3.same s6
       ext
       refine ⟨l,_,_,rfl,rfl,hP6.1,by rw [ya,hP3.2.len];exact qk (by omega),?_⟩
       have ntl:∀ {c:Addr} {ab:Str×Str},J6 c=some (.tup [.str ab.1,.str ab.2])→c≠l:=fun e z=>by rw [z,hP6.1] at e;cases e
       have n1:(s',t')∉tps':=fun z=>by rw [decide_eq_true z] at h1;cases h1
       have n2:(t',s')∉tps':=fun z=>by rw [decide_eq_true z] at h2;cases h2
       refine ⟨hi,fun c o hc1 hc2 e=>by rw [qh hc2];exact s6 _ _ (bJ3 c o hc1 hc2 e),?_,⟨ts'++[t3],tps'++[(s',t')],⟨by rw [qc,List.map_append];rfl,?_⟩,hDJ.snoc (ye hs') ht1 (Ne.symm ht2) n1 n2 h3'⟩,_,_,_,_,rfl⟩
       ·obtain ⟨a1,a2,a3,a4,a5⟩:=(hB3.same s6).mono (show N + 2 * (tu - (i + 1))≤N + 2 * (tu - i) - 2 by omega)
        exact ⟨a1,a2,a3,by rw [qh (Ne.symm hlp)];exact a4,a5⟩
       ·refine All2.snoc (hP6.2.mono fun c ab z=>by rw [qh (ntl z)];exact z) ?_
        rw [qh (ntl (ab:=(s',t')) e6)]
        exact e6
      ·exact fin J5 s35
     ·refine yq ?_
      ext
      exact fin J5 s35
    ·refine yq ?_
     ext
     exact fin J4 s4
  ·obtain ⟨_,bJ,hBJ,⟨ts',tps',hPJ,hDJ⟩,y3,y4,y5,y6,rfl⟩:=hp
   exact q ts' tps' J bJ hPJ hDJ
abbrev qaX:Stmt:=top 36
theorem sc_l_web:FnScope ["_law_script", "_law_most", "_law_box_here", "_law_names_here", "_law_ties", "_law_cell"] ["_law_script", "_law_most"] (qe qaX):=fS
theorem ok_wbA (F:Fun K "_law_web" "_law_web" qaX f fd) (T:Txt K mg cc cw) (D_l_at:DefOk P w K mg base CX0 1 "_law_at" ["_law_script", "_law_k"] (qgK K)) (D_l_box:DefOk P w K mg base CX0 1 "_law_box" ["_law_cell"] qgL) (D_l_take:DefOk P w K mg base CX0 1 "_law_take" ["_law_box_here", "_law_many"] qcT)
  (D_l_names:DefOk P w K mg base CX0 2 "_law_names" ["_law_box_here", "_law_many"] qf9) (D_l_more_ties:DefOk P w K mg base CX0 2 "_law_more_ties" ["_law_box_here", "_law_names_here", "_law_ties"] qga):FnOk P w K mg base CX0 3 f fd ["_law_script", "_law_most"] (qgb K):=by
 refine F.ok sc_l_web (fun vs H Q E h=>?_) fun cdv A outer s H vs Q E hr h=>?_
 ·obtain ⟨a,ns,rfl,_⟩:=h;rfl
 ·obtain ⟨a,nz,rfl,hS,hlen,q⟩:=h
  have hu:=qah hr
  refine ⟨_,(qb (qu (i:=2) sc_l_web.nd rfl (Or.inl rfl) (qr D_l_box (hmR hr) qz (qa (qr D_l_at (hmR hr) qz (qa (pv 0) (qa qg qd))) qd)))
 (qb (qu (i:=3) sc_l_web.nd rfl (Or.inl rfl) (qr D_l_names (hmR hr) qz (qa (pv 2) (qa (qr D_l_take (hmR hr) qz (qa (pv 2) (qa (qx (qy (K:=K) rfl hu) (jv (qa qg (qa qg (qa qg (qa qg (qa (qB (jY (K:=K) rfl) (pv 1) qg) qd)))))) (qr D_l_take (hmR hr) qz (qa (pv 2) (qa qg qd))) (fun _ _=>rfl)) qd))) qd))))
 (qb (qu (i:=4) sc_l_web.nd rfl (Or.inl rfl) (jv qd))
 (qb (jm PassesOwn.never rfl (jK (K:=K) rfl (qB (jY (K:=K) rfl) (jS (qes (K:=K) rfl) (pv 0) (jH qg) (jH qg)) (jv (qa (qr D_l_at (hmR hr) qz (qa (pv 0) (qa qg qd))) (qa (qr D_l_at (hmR hr) qz (qa (pv 0) (qa qg qd))) qd))))) (qw (i:=5) sc_l_web.nd rfl (Or.inl rfl))
 (qf (qL (qv qcD (qm (jX (K:=K) rfl) rfl T.b_len boot_len (qa (pv 3) qd)) qg (qA _)) (qf (qU (qr D_l_more_ties (hmR hr) qz (qa (qr D_l_box (hmR hr) qz (qa (pv 5) qd)) (qa (pv 3) (qa (pv 4) qd)))))) qq)))
 (qf (qp (jJ (qa (pv 3) (qa (pv 4) qd))))))))),?_⟩
  ext
  refine ⟨a,nz,0,rfl,hS,by decide,fun c0=>?_⟩
  ext
  refine ⟨c0,rfl,fun p H1 s1 hp0 hB1=>?_⟩
  ext
  refine ⟨by show 5≤sizeLine;decide,fun m2 hm2=>?_⟩
  have hmp:=hB1.apart hm2
  have s2:=qX (Sr H1) (o:=.lst ([5,8,8,8,15].map iV)) hm2
  have em:upd H1 m2 (.lst ([5,8,8,8,15].map iV)) m2=some (.lst ([5,8,8,8,15].map iV)):=qc
  have eu:upd H1 m2 (.lst [V.int 5,V.int 8,V.int 8,V.int 8,V.int (14 + 1)])=upd H1 m2 (.lst ([5,8,8,8,15].map iV)):=rfl
  rw [eu]
  generalize upd H1 m2 (.lst ([5,8,8,8,15].map iV))=H2 at s2 em
  ext
  refine ⟨p,5,999999999999,rfl,hB1.same s2,by decide,by decide,fun d H3 hd b3 hB3=>?_⟩
  obtain ⟨x,hx⟩:∃ x,[5,8,8,8,15][d]?=some x:=⟨_,yb (by simpa using hd)⟩
  have hx15:0 < x∧x≤15:=by
   have:=ye hx
   simp only [List.mem_cons,List.not_mem_nil,or_false] at this
   omega
  refine .inl (zk (b3 _ _ hmp em) (v:=iV x) (qt (by rw [yd,hx];rfl)) ?_)
  ext
  refine ⟨p,x,999999999998,rfl,hB3,hx15.1,by omega,fun m H4 hm b4 hB4=>?_⟩
  ext
  refine ⟨p,m,1,rfl,hB4.mono (by decide),by omega,fun n ss H5 b5 hB5 hn0 hnp hn5 hO hsl=>?_⟩
  ext
  refine ⟨by show 0≤sizeLine;decide,fun l hl=>?_⟩
  have hlp:=hB5.apart hl
  have hnl:n≠l:=fun z=>by rw [z,hl] at hn5;cases hn5
  have b13:But p H1 H3:=fun c o hc e=>b3 c o hc (s2 c o e)
  have b15:But p H1 H5:=(b13.trans7 b4).trans7 b5
  have s05:L2.Same H H5:=fun c o e=>b15 c o (fun z=>by rw [z,hp0] at e;cases e) (s1 c o e)
  have hlH:=s05.free hl
  have hnH:H n=none:=by
   refine (Same.free (H':=H4) (fun c o e=>b4 c o (fun z=>by rw [z,hp0] at e;cases e) (b3 c o (fun z=>by rw [z,hp0] at e;cases e) (s2 c o (s1 c o e)))) hn0)
  have s6:=qX (Sr H5) (o:=.lst ([]:List V)) hl
  have s06:=s05.trans s6
  have el:upd H5 l (.lst []) l=some (.lst ([]:List V)):=qc
  have hn6:=s6 _ _ hn5
  generalize upd H5 l (.lst [])=H6 at s6 s06 el hn6
  ext
  refine .inl ⟨a,_,rfl,s06.seq hS,fun k hk0=>?_⟩
  obtain ⟨nt,ent,hnt⟩:∃ nt:List Int,qcz (nz.map V.int) (some 1) (some 61)=nt.map V.int∧nt.length≤60:=by
   refine ⟨(nz.drop (HT.sIx nz.length 0 (some 1))).take (HT.sIx nz.length nz.length (some 61) - HT.sIx nz.length 0 (some 1)),?_,?_⟩
   ·unfold qcz
    rw [ya,← List.map_drop,← List.map_take]
   ·rw [List.length_take]
    have h1:=HT.sIx_nat nz.length nz.length 61
    have h2:=HT.sIx_nat nz.length 0 1
    rw [show ((61:Nat):Int)=61 from rfl] at h1
    rw [show ((1:Nat):Int)=1 from rfl] at h2
    rw [h1,h2]
    omega
  rw [ent]
  have s7:=qX (Sr H6) (o:=.lst (nt.map V.int)) hk0
  have hk7:upd H6 k (.lst (nt.map V.int)) k=some (.lst (nt.map V.int)):=qc
  generalize upd H6 k (.lst (nt.map V.int))=H7 at s7 hk7
  ext
  refine ⟨a,nz,61,rfl,(s06.trans s7).seq hS,by decide,fun c61=>?_⟩
  ext
  refine ⟨a,nz,62,rfl,(s06.trans s7).seq hS,by decide,fun c62=>?_⟩
  ext
  refine ⟨by show 2≤sizeLine;decide,fun k2 hk20=>?_⟩
  have s8:=qX (Sr H7) (o:=.lst [.int c61,.int c62]) hk20
  have hk8:upd H7 k2 (.lst [.int c61,.int c62]) k2=some (.lst [.int c61,.int c62]):=qc
  generalize upd H7 k2 (.lst [.int c61,.int c62])=H8 at s8 hk8
  refine .inl ⟨k,k2,_,_,rfl,rfl,s8 _ _ hk7,hk8,by rw [ya];exact Nat.le_of_lt (qk (by simp only [List.length_cons,List.length_nil];omega)),fun lc hlc=>?_⟩
  have ecl:nt.map V.int++[.int c61,.int c62]=(nt++[c61,c62]).map V.int:=by rw [List.map_append];rfl
  rw [ecl]
  have s68:=s7.trans s8
  have s9:=qX s68 (o:=.lst ((nt++[c61,c62]).map V.int)) hlc
  have e9:upd H8 lc (.lst ((nt++[c61,c62]).map V.int)) lc=some (.lst ((nt++[c61,c62]).map V.int)):=qc
  have hlcl:lc≠l:=fun z=>by rw [z,s68 _ _ el] at hlc;cases hlc
  generalize upd H8 lc (.lst ((nt++[c61,c62]).map V.int))=H9 at s9 e9
  generalize nt++[c61,c62]=cs at e9
  have hn9:=s9 _ _ hn6
  have el9:=s9 _ _ el
  refine .inl ⟨⟨_,.of e9⟩,jq (xs:=cs.map V.int) (fun i σ J=>But l H9 J∧(∃ ts tps,PL J l ts tps∧DT ss tps)∧∃ y2 y5,σ=[some (.ref a),some (.int 14),y2,some (.ref n),some (.ref l),y5]) ⟨fun c o _ e=>e,⟨[],[],⟨el9,.nil⟩,DT.nil ss⟩,_,_,rfl⟩ (fun i σ J _ hp=>.of (hp.1 _ _ hlcl e9)) (fun i y σ J hy hp=>?_) fun σ J hp=>?_⟩
  ·obtain ⟨bJ,⟨ts,tps,hP,hD⟩,y2,y5,rfl⟩:=hp
   rw [yd] at hy
   obtain ⟨c,hc,rfl⟩:=yn.mp hy
   have hnJ:=bJ _ _ hnl hn9
   ext
   refine qaU hnJ ?_
   rw [ya]
   ext
   refine qI (fun h1=>?_) (fun h1=>?_)
   ·have h1':1 < ss.length:=by have:=yk h1;omega
    ext
    refine ⟨c,rfl,fun p2 J1 sJ1 hp2 hB2=>?_⟩
    have ne:∀ {x:Addr} {o:HO},J x=some o→x≠p2:=fun e z=>by rw [z,hp2] at e;cases e
    ext
    refine ⟨p2,n,l,ss,ts,tps,1,rfl,hB2.mono (by decide),ne hnJ,ne hP.1,hnl,sJ1 _ _ hnJ,hO,h1',hP.same sJ1,hD,fun ts' tps' J2 b2 hP2 hD2=>?_⟩
    ext
    exact ⟨fun x o hx e=>b2 x o (ne (bJ x o hx e)) hx (sJ1 _ _ (bJ x o hx e)),⟨ts',tps',hP2,hD2⟩,_,_,rfl⟩
   ·exact ⟨bJ,⟨ts,tps,hP,hD⟩,_,_,rfl⟩
  ·obtain ⟨bJ,⟨ts,tps,hP,hD⟩,y2,y5,rfl⟩:=hp
   ext
   refine ⟨by show 2≤sizeLine;decide,fun t ht=>?_⟩
   have sT:=qX (Sr J) (o:=.tup [.ref n,.ref l]) ht
   have s0J:L2.Same H J:=fun c o e=>bJ c o (fun z=>by rw [z,hlH] at e;cases e) (s9 _ _ (s06 c o e))
   exact q t n l ss ts tps _ (s0J.trans sT) qc hnH hlH hnl (sT _ _ (bJ _ _ hnl hn9)) hO (hP.same sT) hD
abbrev jL:Stmt:=top 11
theorem sc_are_pairs:FnScope ["web", "thing", "paired", "tie"] ["web", "thing"] (qe jL):=fS
abbrev jt:Stmt:=jo (top 25) 5
theorem sc_Web_has_tie:FnScope ["self", "thing"] ["self", "thing"] (qe jt):=fS
def qay (seen:List Str):List (Key×V):=seen.map fun s=>(.inr s,.bl true)
theorem zF (y:Str):∀ seen:List Str,(zy (qay seen) (.inr y:Key)).isSome=decide (y∈seen)
 | []=>rfl
 | s::r=>by
  by_cases e:s=y
  ·subst e
   show (zy (((.inr s:Key),V.bl true)::qay r) _).isSome=_
   rw [decide_eq_true (by simp)]
   simp [zy]
  ·show (zy (((.inr s:Key),V.bl true)::qay r) _).isSome=_
   rw [qY (p:=((.inr s:Key),V.bl true)) (fun z=>e (Sum.inr.inj z)),zF y r]
   apply decide_eq_decide.mpr
   simp [Ne.symm e]
theorem qaR {y:Str} {seen:List Str} (h:y∉seen):qas (qay seen) (.inr y:Key) (.bl true)=qay (seen++[y]):=by
 have:zy (qay seen) (.inr y:Key)=none:=by
  have:=zF y seen
  rw [yl h] at this
  exact Option.isNone_iff_eq_none.mp (by rw [← Option.not_isSome,this];rfl)
 rw [qa9 _ this]
 unfold qay
 rw [List.map_append]
 rfl
def qbo (H:Hp) (ss:List Str) (tps:List (Str×Str)) (x:V):Option (Str×Str):=match zv H ss x with
 | some ab=>if ab∈tps∨(ab.2,ab.1)∈tps then some ab else none
 | none=>none
theorem qbp {p:Addr} {n:Nat} {H H':Hp} {ss:List Str} {tps:List (Str×Str)} {x:V} (h:Th p H n x) (s:L2.Same H H'):qbo H' ss tps x=qbo H ss tps x:=by unfold qbo;rw [qcq h s]
theorem qbq {H:Hp} {ss:List Str} {tps:List (Str×Str)} {x:V} {ab:Str×Str} (h:qbo H ss tps x=some ab):zv H ss x=some ab∧(ab∈tps∨(ab.2,ab.1)∈tps):=by
 unfold qbo at h
 cases e:zv H ss x with
 | none=>rw [e] at h;cases h
 | some q =>
  rw [e] at h
  dsimp only at h
  split at h
  ·cases h;exact ⟨rfl,by assumption⟩
  ·cases h
def apL (H:Hp) (ss:List Str) (tps:List (Str×Str)):List Str→List V→Bool
 | _,[]=>true
 | seen,x::r=>match qbo H ss tps x with
  | none=>false
  | some ab=>if ab.1∈seen∨ab.2∈seen then false else apL H ss tps (seen++[ab.1,ab.2]) r
def apV (H:Hp) (ss:List Str) (tps:List (Str×Str)) (v:V):Bool:=match v with
 | .ref a=>(match H a with
  | some (.lst xs)=>apL H ss tps [] xs
  | _=>false)
 | _=>false
theorem qbW {H:Hp} {ss:List Str} {tps:List (Str×Str)} {a:Addr} {xs:List V} (e:H a=some (.lst xs)):apV H ss tps (.ref a)=apL H ss tps [] xs:=by
 unfold apV
 dsimp only
 rw [e]
theorem qbr {H:Hp} {ss:List Str} {tps:List (Str×Str)} {v:V} (h:∀ a xs,v=.ref a→H a≠some (.lst xs)):apV H ss tps v=false:=by
 unfold apV
 split
 ·split
  ·rename_i a _ xs e;exact absurd e (h a xs rfl)
  ·rfl
 ·rfl
def qgM (cw:Addr):Sp:=fun vs H Q _=>∃ (p x:Addr) (k:Nat) (ss:List Str) (ns:List Nat) (tps:List (Str×Str)) (v:V),vs=[.ref x,v]∧WebAt cw H x ss ns∧Adj ss ns tps∧Th p H (k + 1) v∧∀ H',L2.Same H H'→Q (.bl (qbo H ss tps v).isSome) H'
def qhh (cw:Addr):Sp:=fun vs H Q _=>∃ (p x:Addr) (ss:List Str) (ns:List Nat) (tps:List (Str×Str)) (v:V),vs=[.ref x,v]∧WebAt cw H x ss ns∧Adj ss ns tps∧Th p H 3 v∧∀ H',L2.Same H H'→Q (.bl (apV H ss tps v)) H'
theorem ok_ht (F:Fun K "has_tie" "Web.has_tie" jt f fd) (T:Txt K mg cc cw) (D_are_two_places:DefOk P w K mg base CX0 3 "are_two_places" ["numbers", "thing"] qfu) (QD_Web_tied:MethOk P w K mg base CX0 6 cw "tied" ["self", "one", "other"] (fun vs H Q _=>qfb cc cw vs H Q E0)):FnOk P w K mg base CX0 7 f fd ["self", "thing"] (qgM cw):=by
 refine F.ok sc_Web_has_tie (fun vs H Q E h=>?_) fun cdv A outer s H vs Q E hr h=>?_
 ·obtain ⟨p,x,k,ss,ns,tps,v,rfl,_⟩:=h;rfl
 ·obtain ⟨p,x,k,ss,ns,tps,v,rfl,hW,hA,hv,q⟩:=h
  have hu:=qah hr
  obtain ⟨wx,dd,ol,nn,hb,hdd,hol,hnn,hw⟩:=id hW
  refine ⟨_,(qf (qp (qa1 (qr D_are_two_places (hmR hr) qz (qa (zW (K:=K) rfl (pv 0) rfl) (qa (pv 1) qd))) (qa0 (zQ QD_Web_tied (hmR hr) (pv 0) (qa (qx (qy (K:=K) rfl hu) (pv 1) qg (fun _ _=>rfl)) (qa (qx (qy (K:=K) rfl hu) (pv 1) qg (fun _ _=>rfl)) qd))))))),?_⟩
  ext
  refine .inl ⟨x,cw,wx,_,.ref dd,rfl,hb,T.wcl,T.wn,zd,?_⟩
  ext
  refine ⟨p,k + 1,dd,ss,v,rfl,hdd,hv,fun H1 s1=>?_⟩
  cases ht:zv H ss v with
  | none =>
   have e:(qbo H ss tps v).isSome=false:=by unfold qbo;rw [ht];rfl
   have:=q H1 s1
   rw [e] at this
   refine ⟨false,rfl,qI (fun h=>by cases h) fun _=>?_⟩
   exact this
  | some ab =>
   obtain ⟨a,rfl,ea,n1,n2,l1,l2,m1,m2,hne⟩:=qai ht
   refine ⟨true,rfl,j9 ?_⟩
   have ea1:=s1 _ _ ea
   ext
   refine ⟨x,wx,_,rfl,s1 _ _ hb,qa7 (by decide +kernel),?_⟩
   ext
   refine .inl (qbE ea1 (v:=.str ab.1) (qt (j:=0) rfl) ?_)
   ext
   refine .inl (qbE ea1 (v:=.str ab.2) (qt (j:=1) rfl) ?_)
   ext
   have p1:=js m1 n1
   have p2:=js m2 n2
   refine ⟨p,k,x,ss,ns,.str ab.1,.str ab.2,rfl,hW.same s1,.flat rfl (fun u e=>by cases e;omega),.flat rfl (fun u e=>by cases e;omega),(fun h=>by rw [p1] at h;cases h),(fun _ h=>by rw [p2] at h;cases h),fun jj ii gj gi _ _ H2 s2=>?_⟩
   have e:(qbo H ss tps (.ref a)).isSome=(ns.getD jj 0).testBit ii:=by
    unfold qbo
    rw [ht]
    dsimp only
    rw [Bool.eq_iff_iff,hA jj ii ab.1 ab.2 gj gi]
    split
    ·rename_i h;exact ⟨fun _=>h,fun _=>rfl⟩
    ·rename_i h;exact ⟨(fun z=>by cases z),fun z=>absurd z h⟩
   rw [← e]
   exact q H2 (s1.trans s2)
theorem ok_ap (F:Fun K "are_pairs" "are_pairs" jL f fd) (T:Txt K mg cc cw) (D_Web_has_tie:MethOk P w K mg base CX0 7 cw "has_tie" ["self", "thing"] (qgM cw)):FnOk P w K mg base CX0 8 f fd ["web", "thing"] (qhh cw):=by
 refine F.ok sc_are_pairs (fun vs H Q E h=>?_) fun cdv A outer s H vs Q E hr h=>?_
 ·obtain ⟨p,x,ss,ns,tps,v,rfl,_⟩:=h;rfl
 ·obtain ⟨p,x,ss,ns,tps,v,rfl,hW,hA,hv,q⟩:=h
  have hu:=qah hr
  obtain ⟨wx,dd,ol,nn,hb,hdd,hol,hnn,hw⟩:=id hW
  refine ⟨_,(qb (qL (qZ (qK (qm (qax (K:=K) rfl) rfl T.b_isinstance boot_isinstance (qa (pv 1) (qa (j6 (v:=.ty "list") rfl T.b_list boot_list rfl) qd))))) (qf (qp jp)) qq)
 (qb (qu (i:=2) sc_are_pairs.nd rfl (Or.inl rfl) zr)
 (qb (jm PassesOwn.never rfl (jK (K:=K) rfl (pv 1)) (qw (i:=3) sc_are_pairs.nd rfl (Or.inl rfl))
 (qb (qL (PW.pt (qaD (qZ (qK (zQ D_Web_has_tie (hmR hr) (pv 0) (qa (pv 3) qd)))) (qaD (qv (qa6 (K:=K) rfl hu) (qx (qy (K:=K) rfl hu) (pv 3) qg (fun _ _=>rfl)) (pv 2) (by with_unfolding_all rfl)) (qau (qv (qa6 (K:=K) rfl hu) (qx (qy (K:=K) rfl hu) (pv 3) qg (fun _ _=>rfl)) (pv 2) (by with_unfolding_all rfl)))))) (qf (qp jp)) qq)
 (qb (jG jp (jV (pv 2) (qx (qy (K:=K) rfl hu) (pv 3) qg (fun _ _=>rfl)) (jZ hu)))
 (qf (jG jp (jV (pv 2) (qx (qy (K:=K) rfl hu) (pv 3) qg (fun _ _=>rfl)) (jZ hu)))))))
 (qf (qp jp))))),?_⟩
  ext
  by_cases hlist:∃ a xs,v=.ref a∧H a=some (.lst xs)
  ·obtain ⟨a,xs,rfl,ha⟩:=hlist
   obtain ⟨hap,hxs,hxl⟩:a≠p∧(∀ y∈xs,Th p H 2 y)∧xs.length≤1000:=by
    cases hv with
    | lst e ne h l=>rw [ha] at e;cases e;exact ⟨ne,h,l⟩
    | tup e ne h l=>rw [ha] at e;cases e
    | dct e ne=>rw [ha] at e;cases e
    | flat f l=>cases f
   rw [qbW ha] at q
   refine qaL (.inl (.lst ha)) rfl (j7 K "list" (by simp) "list" (by simp)) ?_
   ext
   refine yq ?_
   ext
   intro d hd
   have s1:=qX (Sr H) (o:=.dK []) hd
   have ed:upd H d (.dK []) d=some (.dK (qay [])):=qc
   generalize upd H d (.dK [])=H1 at s1 ed
   ext
   refine .inl ⟨⟨_,.of (s1 _ _ ha)⟩,jq (xs:=xs) (fun i σ J=>L2.Same H J∧∃ y3 seen,σ=[some (.ref x),some (.ref a),some (.ref d),y3]∧J d=some (.dK (qay seen))∧seen.length=2 * i∧apL H ss tps [] xs=apL H ss tps seen (xs.drop i)) ⟨s1,_,[],rfl,ed,rfl,rfl⟩ (fun i σ J _ hp=>.of (hp.1 _ _ ha)) (fun i y σ J hy hp=>?_) fun σ J hp=>?_⟩
   ·obtain ⟨sJ,y3,seen,rfl,edJ,hsl,hun⟩:=hp
    have hil:i < xs.length:=(yc.mp hy).1
    have hdr:xs.drop i=y::xs.drop (i + 1):=by
     rw [List.drop_eq_getElem_cons hil]
     have:=(yc.mp hy).2
     rw [this]
    rw [hdr] at hun
    have hty:=hxs y (ye hy)
    have stop:∀ J2,L2.Same H J2→apL H ss tps [] xs=false→Q (.bl false) J2:=fun J2 s2 e=>by
     have:=q J2 s2
     rwa [e] at this
    ext
    refine ⟨x,wx,_,rfl,sJ _ _ hb,qa7 (by decide +kernel),?_⟩
    ext
    refine ⟨p,x,1,ss,ns,tps,y,rfl,hW.same sJ,hA,hty.same sJ,fun J2 s2=>?_⟩
    rw [qbp hty sJ]
    have s02:=sJ.trans s2
    cases ht:qbo H ss tps y with
    | none =>
     ext
     refine j9 ?_
     ext
     refine stop J2 s02 ?_
     rw [hun]
     show (match qbo H ss tps y with | none=>false | some ab=>_)=_
     rw [ht]
    | some ab =>
     obtain ⟨t1,t2⟩:=qbq ht
     obtain ⟨b,rfl,eb,n1,n2,l1,l2,m1,m2,hne⟩:=qai t1
     have eb2:=s02 _ _ eb
     have hun':apL H ss tps [] xs=if ab.1∈seen∨ab.2∈seen then false else apL H ss tps (seen++[ab.1,ab.2]) (xs.drop (i + 1)):=by
      rw [hun]
      show (match qbo H ss tps (.ref b) with | none=>false | some ab=>_)=_
      rw [ht]
     ext
     refine yq ?_
     ext
     refine .inl (qbE eb2 (v:=.str ab.1) (qt (j:=0) rfl) ?_)
     ext
     refine .inr (.inl ⟨d,_,rfl,DGet.k (k:=Sum.inr ab.1) (s2 _ _ edJ),?_⟩)
     rw [if_neg (by decide),zF]
     ext
     refine qI (fun hm=>?_) fun hm=>?_
     ·ext
      refine j9 ?_
      ext
      exact stop J2 s02 (by rw [hun',if_pos (.inl (yk hm))])
     ·have hm1:ab.1∉seen:=fun e=>hm (decide_eq_true e)
      ext
      refine .inl (qbE eb2 (v:=.str ab.2) (qt (j:=1) rfl) ?_)
      ext
      refine .inr (.inl ⟨d,_,rfl,DGet.k (k:=Sum.inr ab.2) (s2 _ _ edJ),?_⟩)
      rw [if_neg (by decide),zF]
      ext
      refine qI (fun hm=>?_) fun hm=>?_
      ·ext
       exact stop J2 s02 (by rw [hun',if_pos (.inr (yk hm))])
      ·have hm2:ab.2∉seen:=fun e=>hm (decide_eq_true e)
       rw [if_neg (fun h=>h.elim hm1 hm2)] at hun'
       ext
       refine .inl (qbE eb2 (v:=.str ab.1) (qt (j:=0) rfl) ?_)
       ext
       refine .inr ⟨d,_,rfl,DPut.k (k:=Sum.inr ab.1) (s2 _ _ edJ) (by unfold qay;rw [ya,sizeLine_eq];omega),?_⟩
       rw [qaR hm1]
       have s3:=qbG s02 (o:=.dK (qay (seen++[ab.1]))) hd
       have e3:upd J2 d (.dK (qay (seen++[ab.1]))) d=some (.dK (qay (seen++[ab.1]))):=qc
       have hbd:b≠d:=fun z=>by rw [z] at eb;rw [eb] at hd;cases hd
       have eb3:upd J2 d (.dK (qay (seen++[ab.1]))) b=some (.tup [.str ab.1,.str ab.2]):=by rw [qh hbd];exact eb2
       generalize upd J2 d (.dK (qay (seen++[ab.1])))=J3 at s3 e3 eb3
       ext
       refine .inl (qbE eb3 (v:=.str ab.2) (qt (j:=1) rfl) ?_)
       ext
       refine .inr ⟨d,_,rfl,DPut.k (k:=Sum.inr ab.2) e3 (by unfold qay;rw [ya,List.length_append,sizeLine_eq];simp only [List.length_cons,List.length_nil];omega),?_⟩
       rw [qaR (fun z=>by rcases List.mem_append.mp z with z | z;exact hm2 z;exact hne (List.mem_singleton.mp z).symm)]
       exact ⟨qbG s3 hd,_,seen++[ab.1]++[ab.2],rfl,qc,by simp only [List.length_append,List.length_cons,List.length_nil];omega,by rw [hun',List.append_assoc];rfl⟩
   ·obtain ⟨sJ,y3,seen,rfl,edJ,hsl,hun⟩:=hp
    rw [List.drop_length] at hun
    ext
    have:=q J sJ
    rwa [hun] at this
  ·have hno:∀ (a:Addr) (xs:List V),v=.ref a→H a≠some (.lst xs):=fun a xs e e'=>hlist ⟨a,xs,e,e'⟩
   rw [qbr hno] at q
   obtain ⟨t,ht,he,ty⟩:∃ t:String,t∈["NoneType", "bool", "int", "str", "list", "tuple", "dict"]∧qcL t "list"=false∧TyOf K H v (.type t):=by
    cases hv with
    | flat f l =>
     cases v with
     | non=>exact ⟨_,by simp,rfl,.non⟩
     | bl b=>exact ⟨"bool",by simp,rfl,.bl b⟩
     | int i=>exact ⟨"int",by simp,rfl,.int i⟩
     | str z=>exact ⟨"str",by simp,rfl,.str z⟩
     | _=>cases f
    | lst e ne h l=>exact absurd e (hno _ _ rfl)
    | tup e ne h l=>exact ⟨"tuple",by simp,rfl,.tup e⟩
    | dct e ne=>exact ⟨"dict",by simp,rfl,.dK e⟩
   refine qaL (.inl ty) rfl (j7 K t ht "list" (by simp)) ?_
   rw [he]
   ext
   refine j9 ?_
   ext
   exact q H (Sr H)
abbrev ju:Stmt:=top 12
theorem sc_partners_in:FnScope ["web", "pairs", "partners", "pair"] ["web", "pairs"] (qe ju):=fS
def qi (qs:List (Str×Str)):List Str:=qs.flatMap fun q=>[q.1,q.2]
def prK (qs:List (Str×Str)):List (Key×V):=qs.flatMap fun q=>[(.inr q.1,.str q.2),(.inr q.2,.str q.1)]
def pt:List (Str×Str)→Str→Option Str
 | [],_=>none
 | q::r,s=>if q.1=s then some q.2 else if q.2=s then some q.1 else pt r s
theorem jz (s:Str):∀ qs,zy (prK qs) (.inr s:Key)=(pt qs s).map V.str
 | []=>rfl
 | q::r=>by
  show zy (((.inr q.1:Key),V.str q.2)::((.inr q.2:Key),V.str q.1)::prK r) _=(pt (q::r) s).map V.str
  unfold pt
  by_cases h1:q.1=s
  ·rw [jk (p:=((.inr q.1:Key),V.str q.2)) (congrArg Sum.inr h1),if_pos h1];rfl
  ·rw [qY (p:=((.inr q.1:Key),V.str q.2)) (fun z=>h1 (Sum.inr.inj z)),if_neg h1]
   by_cases h2:q.2=s
   ·rw [jk (p:=((.inr q.2:Key),V.str q.1)) (congrArg Sum.inr h2),if_pos h2];rfl
   ·rw [qY (p:=((.inr q.2:Key),V.str q.1)) (fun z=>h2 (Sum.inr.inj z)),if_neg h2,jz s r]
theorem pt_none {s:Str}:∀ {qs:List (Str×Str)},pt qs s=none↔s∉qi qs
 | []=>by simp [pt,qi]
 | q::r=>by
  have e:qi (q::r)=q.1::q.2::qi r:=rfl
  rw [e]
  unfold pt
  by_cases h1:q.1=s
  ·rw [if_pos h1];simp [h1]
  ·rw [if_neg h1]
   by_cases h2:q.2=s
   ·rw [if_pos h2];simp [h2]
   ·rw [if_neg h2,pt_none]
    simp only [List.mem_cons,not_or]
    exact ⟨fun z=>⟨Ne.symm h1,Ne.symm h2,z⟩,fun z=>z.2.2⟩
structure GP (H:Hp) (ss:List Str) (tps:List (Str×Str)) (xs:List V) (qs:List (Str×Str)):Prop where
 al:All2 (fun x q=>qbo H ss tps x=some q) xs qs
 nd:(qi qs).Nodup
theorem All2.cons {α β:Type} {R:α→β→Prop} {l:List α} {m:List β} {x:α} {y:β} (r:R x y) (h:All2 R l m):All2 R (x::l) (y::m):=
 ⟨by rw [List.length_cons,List.length_cons,h.len],fun k a b ha hb=>by
  cases k with
  | zero=>simp at ha hb;subst ha;subst hb;exact r
  | succ k=>exact h.at_ k a b (by simpa using ha) (by simpa using hb)⟩
theorem All2.tail {α β:Type} {R:α→β→Prop} {l:List α} {m:List β} {x:α} {y:β} (h:All2 R (x::l) (y::m)):R x y∧All2 R l m:=
 ⟨h.at_ 0 x y rfl rfl,by have:=h.len;simpa using this,fun k a b ha hb=>h.at_ (k + 1) a b (by simpa using ha) (by simpa using hb)⟩
theorem apL_iff {H:Hp} {ss:List Str} {tps:List (Str×Str)}:∀ {xs:List V} {seen:List Str},apL H ss tps seen xs=true↔∃ qs,GP H ss tps xs qs∧∀ n∈qi qs,n∉seen
 | [],seen=>⟨fun _=>⟨[],⟨.nil,.nil⟩,fun n h=>by cases h⟩,fun _=>rfl⟩
 | x::r,seen=>by
  have e:apL H ss tps seen (x::r)=match qbo H ss tps x with | none=>false | some ab=>if ab.1∈seen∨ab.2∈seen then false else apL H ss tps (seen++[ab.1,ab.2]) r:=rfl
  rw [e]
  cases ht:qbo H ss tps x with
  | none =>
   refine ⟨(fun z=>by cases z),fun ⟨qs,g,_⟩=>?_⟩
   cases qs with
   | nil=>have:=g.al.len;simp at this
   | cons q qs=>have:=(All2.tail g.al).1;rw [ht] at this;cases this
  | some ab =>
   dsimp only
   have hne:=(qai (qbq ht).1).choose_spec.2.2.2.2.2.2.2.2
   constructor
   ·intro h
    split at h
    ·cases h
    ·rename_i hno
     obtain ⟨qs,g,hn⟩:=apL_iff.mp h
     refine ⟨ab::qs,⟨All2.cons ht g.al,?_⟩,fun n hnm=>?_⟩
     ·show (ab.1::ab.2::qi qs).Nodup
      refine yo.mpr ⟨fun z=>?_,yo.mpr ⟨fun z=>hn _ z (by simp),g.nd⟩⟩
      rcases List.mem_cons.mp z with z | z
      ·exact hne z
      ·exact hn _ z (by simp)
     ·rcases List.mem_cons.mp (show n∈ab.1::ab.2::qi qs from hnm) with z | z
      ·rw [z];exact fun y=>hno (.inl y)
      ·rcases List.mem_cons.mp z with z | z
       ·rw [z];exact fun y=>hno (.inr y)
       ·exact fun y=>hn n z (List.mem_append_left _ y)
   ·rintro ⟨qs,g,hn⟩
    cases qs with
    | nil=>have:=g.al.len;simp at this
    | cons q qs =>
     obtain ⟨h1,h2⟩:=All2.tail g.al
     rw [ht] at h1
     cases h1
     have hnd:(ab.1::ab.2::qi qs).Nodup:=g.nd
     obtain ⟨d1,d2⟩:=yo.mp hnd
     obtain ⟨d3,d4⟩:=yo.mp d2
     have hn':∀ n∈ab.1::ab.2::qi qs,n∉seen:=hn
     rw [if_neg (fun z=>z.elim (hn' _ (by simp)) (hn' _ (by simp)))]
     refine apL_iff.mpr ⟨qs,⟨h2,d4⟩,fun n hnm y=>?_⟩
     rcases List.mem_append.mp y with y | y
     ·exact hn' n (by simp [hnm]) y
     ·simp only [List.mem_cons,List.not_mem_nil,or_false] at y
      rcases y with rfl | rfl
      ·exact d1 (by simp [hnm])
      ·exact d3 hnm
def GV (H:Hp) (ss:List Str) (tps:List (Str×Str)) (v:V) (qs:List (Str×Str)):Prop:=∃ a xs,v=.ref a∧H a=some (.lst xs)∧GP H ss tps xs qs
theorem apV_true {H:Hp} {ss:List Str} {tps:List (Str×Str)} {v:V} (h:apV H ss tps v=true):∃ qs,GV H ss tps v qs:=by
 unfold apV at h
 split at h
 ·split at h
  ·rename_i a _ xs e
   obtain ⟨qs,g,_⟩:=apL_iff.mp h
   exact ⟨qs,a,xs,rfl,e,g⟩
  ·cases h
 ·cases h
theorem GV.tru {H:Hp} {ss:List Str} {tps:List (Str×Str)} {v:V} {qs:List (Str×Str)} (h:GV H ss tps v qs):apV H ss tps v=true:=by
 obtain ⟨a,xs,rfl,e,g⟩:=h
 rw [qbW e]
 exact apL_iff.mpr ⟨qs,g,fun _ _ z=>by cases z⟩
theorem GV.one {H:Hp} {ss:List Str} {tps:List (Str×Str)} {v:V} {qs rs:List (Str×Str)} (h:GV H ss tps v qs) (g:GV H ss tps v rs):qs=rs:=by
 obtain ⟨a,xs,rfl,e,g1⟩:=h
 obtain ⟨a',xs',e1,e2,g2⟩:=g
 cases e1
 rw [e] at e2
 cases e2
 refine List.ext_getElem (by rw [← g1.al.len,g2.al.len]) fun i h1 h2=>?_
 have hx:i < xs.length:=by rw [g1.al.len];exact h1
 have a1:=g1.al.at_ i _ _ (yb hx) (yb h1)
 have a2:=g2.al.at_ i _ _ (yb hx) (yb h2)
 rw [a1] at a2
 exact ym a2
theorem qcU (qs:List (Str×Str)):(prK qs).length=2 * qs.length:=by
 induction qs with
 | nil=>rfl
 | cons q r ih=>show (_::_::prK r).length=_;simp only [List.length_cons];rw [ih];omega
theorem prK_snoc (qs:List (Str×Str)) (q:Str×Str):prK (qs++[q])=prK qs++[(.inr q.1,.str q.2),(.inr q.2,.str q.1)]:=by
 unfold prK
 rw [List.flatMap_append]
 rfl
theorem qaj (qs:List (Str×Str)) (q:Str×Str):qi (qs++[q])=qi qs++[q.1,q.2]:=by
 unfold qi
 rw [List.flatMap_append]
 rfl
theorem qej {qs:List (Str×Str)} {q:Str×Str} (h:(qi (qs++[q])).Nodup):qas (qas (prK qs) (.inr q.1:Key) (.str q.2)) (.inr q.2:Key) (.str q.1)=prK (qs++[q]):=by
 rw [qaj] at h
 obtain ⟨h1,h2,h3⟩:=List.nodup_append.mp h
 have n1:q.1∉qi qs:=fun z=>h3 _ z _ (by simp) rfl
 have n2:q.2∉qi qs:=fun z=>h3 _ z q.2 (by simp) rfl
 have n3:q.1≠q.2:=by simp at h2;exact h2
 have v1:zy (prK qs) (.inr q.1:Key)=none:=by rw [jz,pt_none.mpr n1];rfl
 rw [qa9 _ v1]
 have v2:zy (prK qs++[((.inr q.1:Key),V.str q.2)]) (.inr q.2:Key)=none:=by
  have v2:zy (prK qs) (.inr q.2:Key)=none:=by rw [jz,pt_none.mpr n2];rfl
  unfold zy at v2 ⊢
  rw [List.find?_append]
  have:(prK qs).find? (fun kv=>decide (kv.1=(.inr q.2:Key)))=none:=by simpa using v2
  rw [this]
  simp [n3]
 rw [qa9 _ v2,prK_snoc]
 simp
def qgr (cc:Nat→Addr) (cw:Addr):Sp:=fun vs H Q E=>∃ (p x:Addr) (ss:List Str) (ns:List Nat) (tps:List (Str×Str)) (v:V),vs=[.ref x,v]∧WebAt cw H x ss ns∧Adj ss ns tps∧Th p H 3 v∧(apV H ss tps v=false→Rz cc H E (5,v)) ∧
 ∀ qs,GV H ss tps v qs→∀ (d:Addr) (H':Hp),L2.Same H H'→H d=none→H' d=some (.dK (prK qs))→Q (.ref d) H'
theorem ok_pn (F:Fun K "partners_in" "partners_in" ju f fd) (T:Txt K mg cc cw) (D_NoPairs:XMakeOk P w K mg base 2 (cc 5) "NoPairs" ["self", "found"] (spX (cc 5) (qa3 5))) (D_are_pairs:DefOk P w K mg base CX0 8 "are_pairs" ["web", "thing"] (qhh cw)):FnOk P w K mg base (CX1 P w) 9 f fd ["web", "pairs"] (qgr cc cw):=by
 refine F.ok1 sc_partners_in (fun vs H Q E h=>?_) fun cdv A outer s H vs Q E hr h=>?_
 ·obtain ⟨p,x,ss,ns,tps,v,rfl,_⟩:=h;rfl
 ·obtain ⟨p,x,ss,ns,tps,v,rfl,hW,hA,hv,hE,q⟩:=h
  have hu:=qah hr
  refine ⟨_,(qb (qL (qZ (qK (qr D_are_pairs (hmR hr) qz (qa (pv 0) (qa (pv 1) qd))))) (qf (zl (K:=K) rfl jl (qbk D_NoPairs (hmR hr) (qa (pv 1) qd)))) qq)
 (qb (qu (i:=2) sc_partners_in.nd rfl (Or.inl rfl) zr)
 (qb (jm PassesOwn.leaving rfl (jK (K:=K) rfl (pv 1)) (qw (i:=3) sc_partners_in.nd rfl (Or.inl rfl))
 (qb (jG (qx (qy (K:=K) rfl hu) (pv 3) qg (fun _ _=>rfl)) (jV (pv 2) (qx (qy (K:=K) rfl hu) (pv 3) qg (fun _ _=>rfl)) (jZ hu)))
 (qf (jG (qx (qy (K:=K) rfl hu) (pv 3) qg (fun _ _=>rfl)) (jV (pv 2) (qx (qy (K:=K) rfl hu) (pv 3) qg (fun _ _=>rfl)) (jZ hu))))))
 (qf (qp (pv 2)))))),?_⟩
  ext
  refine ⟨p,x,ss,ns,tps,v,rfl,hW,hA,hv,fun H1 s1=>?_⟩
  cases hap:apV H ss tps v with
  | false =>
   ext
   refine j9 ?_
   ext
   exact q8 (T.xat 5 (by decide)) ((hE hap).later s1)
  | true =>
   obtain ⟨qs,hq⟩:=apV_true hap
   obtain ⟨a,xs,rfl,ha,hg⟩:=id hq
   have hxl:xs.length≤1000:=by
    cases hv with
    | lst e ne h l=>rw [ha] at e;cases e;exact l
    | tup e ne h l=>rw [ha] at e;cases e
    | dct e ne=>rw [ha] at e;cases e
    | flat f l=>cases f
   ext
   refine yq ?_
   ext
   intro d hd
   have hdH:=s1.free hd
   have s2:=qX s1 (o:=.dK []) hd
   have ed:upd H1 d (.dK []) d=some (.dK (prK [])):=qc
   generalize upd H1 d (.dK [])=H2 at s2 ed
   ext
   refine .inl ⟨⟨_,.of (s2 _ _ ha)⟩,jq (xs:=xs) (fun i σ J=>L2.Same H J∧∃ y3,σ=[some (.ref x),some (.ref a),some (.ref d),y3]∧J d=some (.dK (prK (qs.take i)))) ⟨s2,_,rfl,ed⟩ (fun i σ J _ hp=>.of (hp.1 _ _ ha)) (fun i y σ J hy hp=>?_) fun σ J hp=>?_⟩
   ·obtain ⟨sJ,y3,rfl,edJ⟩:=hp
    have hil:i < xs.length:=(yc.mp hy).1
    have hiq:i < qs.length:=by rw [← hg.al.len];exact hil
    obtain ⟨ab,hab⟩:∃ ab,qs[i]?=some ab:=⟨_,yb hiq⟩
    obtain ⟨b,rfl,eb,_⟩:=qai (qbq (hg.al.at_ i y ab hy hab)).1
    have htk:qs.take (i + 1)=qs.take i++[ab]:=by rw [List.take_add_one,hab];rfl
    have hnd:(qi (qs.take i++[ab])).Nodup:=by
     rw [← htk]
     have:qi qs=qi (qs.take (i + 1))++qi (qs.drop (i + 1)):=by unfold qi;rw [← List.flatMap_append,List.take_append_drop]
     have hn:=hg.nd
     rw [this] at hn
     exact (List.nodup_append.mp hn).1
    have hbd:b≠d:=fun z=>by rw [z,hdH] at eb;cases eb
    have ebJ:=sJ _ _ eb
    have hl3:(prK (qs.take i)).length≤2000:=by rw [qcU,List.length_take];have:=hg.al.len;omega
    ext
    refine .inl (qbE ebJ (v:=.str ab.2) (qt (j:=1) rfl) ?_)
    ext
    refine .inl (qbE ebJ (v:=.str ab.1) (qt (j:=0) rfl) ?_)
    ext
    refine .inr ⟨d,_,rfl,DPut.k (k:=Sum.inr ab.1) edJ (by rw [sizeLine_eq];omega),?_⟩
    have s3:=qbG sJ (o:=.dK (qas (prK (qs.take i)) (Sum.inr ab.1) (.str ab.2))) hdH
    have e3:upd J d (.dK (qas (prK (qs.take i)) (Sum.inr ab.1) (.str ab.2))) d=some (.dK (qas (prK (qs.take i)) (Sum.inr ab.1) (.str ab.2))):=qc
    have eb3:upd J d (.dK (qas (prK (qs.take i)) (Sum.inr ab.1) (.str ab.2))) b=some (.tup [.str ab.1,.str ab.2]):=by rw [qh hbd];exact ebJ
    generalize upd J d (.dK (qas (prK (qs.take i)) (Sum.inr ab.1) (.str ab.2)))=J3 at s3 e3 eb3
    ext
    refine .inl (qbE eb3 (v:=.str ab.1) (qt (j:=0) rfl) ?_)
    ext
    refine .inl (qbE eb3 (v:=.str ab.2) (qt (j:=1) rfl) ?_)
    ext
    refine .inr ⟨d,_,rfl,DPut.k (k:=Sum.inr ab.2) e3 ?_,?_⟩
    ·have:=jy (prK (qs.take i)) (Sum.inr ab.1:Key) (.str ab.2)
     rw [sizeLine_eq];omega
    ·exact ⟨qbG s3 hdH,_,rfl,by rw [qc,qej hnd,htk]⟩
   ·obtain ⟨sJ,y3,rfl,edJ⟩:=hp
    rw [hg.al.len,List.take_length] at edJ
    ext
    exact q qs hq d J sJ hdH edJ
theorem qdt {p:Addr} {H H':Hp} {ss:List Str} {tps:List (Str×Str)} (s:L2.Same H H'):∀ {xs:List V} {seen:List Str},(∀ y∈xs,∃ n,Th p H n y)→apL H' ss tps seen xs=apL H ss tps seen xs
 | [],_,_=>rfl
 | x::r,seen,h=>by
  show (match qbo H' ss tps x with | none=>false | some ab=>if ab.1∈seen∨ab.2∈seen then false else apL H' ss tps (seen++[ab.1,ab.2]) r)=(match qbo H ss tps x with | none=>false | some ab=>if ab.1∈seen∨ab.2∈seen then false else apL H ss tps (seen++[ab.1,ab.2]) r)
  rw [qbp (h x List.mem_cons_self).choose_spec s]
  cases qbo H ss tps x with
  | none=>rfl
  | some ab=>dsimp only;rw [qdt s fun y hy=>h y (List.mem_cons_of_mem _ hy)]
theorem qdu {p:Addr} {n:Nat} {H H':Hp} {ss:List Str} {tps:List (Str×Str)} {v:V} (h:Th p H n v) (s:L2.Same H H'):apV H' ss tps v=apV H ss tps v:=by
 cases h with
 | flat f l =>
  have no:∀ {G:Hp} (a:Addr) (xs:List V),v=.ref a→G a≠some (.lst xs):=fun a xs e=>by rw [e] at f;cases f
  rw [qbr no,qbr no]
 | lst e ne h l=>rw [qbW e,qbW (s _ _ e),qdt s fun y hy=>⟨_,h y hy⟩]
 | tup e ne h l=>rw [qbr (fun a xs e1 e2=>by cases e1;rw [s _ _ e] at e2;cases e2),qbr (fun a xs e1 e2=>by cases e1;rw [e] at e2;cases e2)]
 | dct e ne=>rw [qbr (fun a xs e1 e2=>by cases e1;rw [s _ _ e] at e2;cases e2),qbr (fun a xs e1 e2=>by cases e1;rw [e] at e2;cases e2)]
theorem GV.same {p:Addr} {n:Nat} {H H':Hp} {ss:List Str} {tps:List (Str×Str)} {v:V} {qs:List (Str×Str)} (g:GV H ss tps v qs) (h:Th p H n v) (s:L2.Same H H'):GV H' ss tps v qs:=by
 obtain ⟨a,xs,rfl,e,g⟩:=g
 refine ⟨a,xs,rfl,s _ _ e,⟨g.al.len,fun k x q hx hq=>?_⟩,g.nd⟩
 cases h with
 | lst e' ne h l =>
  rw [e] at e';cases e'
  rw [qbp (h x (ye hx)) s]
  exact g.al.at_ k x q hx hq
 | tup e' ne h l=>rw [e] at e';cases e'
 | dct e' ne=>rw [e] at e';cases e'
 | flat f l=>cases f
theorem qek {H:Hp} {qs:List (Str×Str)} {s t:Str} {Q:VK} (q:Q (.bl (decide (pt qs s=some t))) H):qfE K (((pt qs s).map V.str).getD .non) (.str t) H Q:=by
 cases e:pt qs s with
 | none=>rw [e] at q;exact .inl (.inl (.inl ⟨rfl,rfl,q⟩))
 | some u =>
  refine qhf ?_
  rw [e] at q
  rwa [show decide (u=t)=decide (some u=some t) from decide_eq_decide.mpr ⟨congrArg some,ym⟩]
abbrev zG:Stmt:=top 39
theorem sc_l_pairs:FnScope ["_law_box_here", "_law_ties", "_law_left", "_law_free", "_law_pairs_here", "_law_one", "_law_other"] ["_law_box_here", "_law_ties"] (qe zG):=fS
abbrev jF:Stmt:=top 40
theorem sc_l_partners:FnScope ["_law_pairs_here", "_law_found", "_law_one", "_law_other"] ["_law_pairs_here"] (qe jF):=fS
structure DP (tps qs:List (Str×Str)):Prop where
 nd:(qi qs).Nodup
 ok:∀ q∈qs,q∈tps∨(q.2,q.1)∈tps
 few:qs.length≤30
def qgc:Sp:=fun vs H Q _=>∃ (p l:Addr) (ss:List Str) (ts:List Addr) (tps:List (Str×Str)) (N:Nat),vs=[.ref p,.ref l]∧Pn (N + 90) H p∧l≠p∧PL H l ts tps∧DT ss tps ∧
 ∀ (r:Addr) (us:List Addr) (qs:List (Str×Str)) (H':Hp),But p H H'→Pn N H' p→H r=none→r≠p→PL H' r us qs→DP tps qs→Q (.ref r) H'
def qel:Sp:=fun vs H Q _=>∃ (r:Addr) (us:List Addr) (qs:List (Str×Str)),vs=[.ref r]∧PL H r us qs∧(qi qs).Nodup∧qs.length≤1000∧∀ (d:Addr) (H':Hp),L2.Same H H'→H d=none→H' d=some (.dK (prK qs))→Q (.ref d) H'
theorem ix_nat {k n:Nat} (h:k < n):seqIndex? (k:Int) n=some k:=by
 unfold seqIndex?
 simp
 omega
theorem ok_ptA (F:Fun K "_law_partners" "_law_partners" jF f fd) (T:Txt K mg cc cw):FnOk P w K mg base CX0 1 f fd ["_law_pairs_here"] qel:=by
 refine F.ok sc_l_partners (fun vs H Q E h=>?_) fun cdv A outer s H vs Q E hr h=>?_
 ·obtain ⟨r,us,qs,rfl,_⟩:=h;rfl
 ·obtain ⟨r,us,qs,rfl,hP,hnd,hql,q⟩:=h
  have hu:=qah hr
  refine ⟨_,(qb (qu (i:=1) sc_l_partners.nd rfl (Or.inl rfl) zr)
 (qb (jm PassesOwn.never rfl (qe7 (K:=K) rfl (pv 0)) (qb2 rfl (jQ (qw (i:=2) sc_l_partners.nd rfl (Or.inl rfl)) (jQ (qw (i:=3) sc_l_partners.nd rfl (Or.inl rfl)) qbe)))
 (qb (jG (pv 3) (jV (pv 1) (pv 2) (jZ hu)))
 (qf (jG (pv 2) (jV (pv 1) (pv 3) (jZ hu))))))
 (qf (qp (pv 1))))),?_⟩
  ext
  intro d hd
  have s1:=qX (Sr H) (o:=.dK []) hd
  have ed:upd H d (.dK []) d=some (.dK (prK [])):=qc
  generalize upd H d (.dK [])=H1 at s1 ed
  ext
  refine qf3 ?_
  ext
  refine ⟨r,_,rfl,.of (s1 _ _ hP.1),jq (xs:=us.map V.ref) (fun i σ J=>L2.Same H J∧∃ y2 y3,σ=[some (.ref r),some (.ref d),y2,y3]∧J d=some (.dK (prK (qs.take i)))) ⟨s1,_,_,rfl,ed⟩ (fun i σ J _ hp=>.of (hp.1 _ _ hP.1)) (fun i y σ J hy hp=>?_) fun σ J hp=>?_⟩
  ·obtain ⟨sJ,y2,y3,rfl,edJ⟩:=hp
   rw [yd] at hy
   obtain ⟨b,hb,rfl⟩:=yn.mp hy
   have hiq:i < qs.length:=by rw [← hP.2.len];exact (yc.mp hb).1
   obtain ⟨ab,hab⟩:∃ ab,qs[i]?=some ab:=⟨_,yb hiq⟩
   have eb:=sJ _ _ (hP.2.at_ i b ab hb hab)
   have htk:qs.take (i + 1)=qs.take i++[ab]:=by rw [List.take_add_one,hab];rfl
   have hn2:(qi (qs.take i++[ab])).Nodup:=by
    rw [← htk]
    have:qi qs=qi (qs.take (i + 1))++qi (qs.drop (i + 1)):=by unfold qi;rw [← List.flatMap_append,List.take_append_drop]
    have hn:=hnd
    rw [this] at hn
    exact (List.nodup_append.mp hn).1
   have hl3:(prK (qs.take i)).length≤2000:=by rw [qcU,List.length_take];omega
   refine ⟨b,_,rfl,.of eb,rfl,_,_,rfl,_,_,rfl,rfl,?_⟩
   ext
   refine .inr ⟨d,_,rfl,DPut.k (k:=Sum.inr ab.1) edJ (by rw [sizeLine_eq];omega),?_⟩
   have s3:=qbG sJ (o:=.dK (qas (prK (qs.take i)) (Sum.inr ab.1) (.str ab.2))) hd
   have e3:upd J d (.dK (qas (prK (qs.take i)) (Sum.inr ab.1) (.str ab.2))) d=some (.dK (qas (prK (qs.take i)) (Sum.inr ab.1) (.str ab.2))):=qc
   generalize upd J d (.dK (qas (prK (qs.take i)) (Sum.inr ab.1) (.str ab.2)))=J3 at s3 e3
   ext
   refine .inr ⟨d,_,rfl,DPut.k (k:=Sum.inr ab.2) e3 ?_,?_⟩
   ·have:=jy (prK (qs.take i)) (Sum.inr ab.1:Key) (.str ab.2)
    rw [sizeLine_eq];omega
   ·exact ⟨qbG s3 hd,_,_,rfl,by rw [qc,qej hn2,htk]⟩
  ·obtain ⟨sJ,y2,y3,rfl,edJ⟩:=hp
   rw [show (us.map V.ref).length=qs.length by rw [ya,hP.2.len],List.take_length] at edJ
   ext
   exact q d J sJ hd edJ
theorem ok_prA (F:Fun K "_law_pairs" "_law_pairs" zG f fd) (T:Txt K mg cc cw) (D_l_take:DefOk P w K mg base CX0 1 "_law_take" ["_law_box_here", "_law_many"] qcT):FnOk P w K mg base CX0 2 f fd ["_law_box_here", "_law_ties"] qgc:=by
 refine F.ok sc_l_pairs (fun vs H Q E h=>?_) fun cdv A outer s H vs Q E hr h=>?_
 ·obtain ⟨p,l,ss,ts,tps,N,rfl,_⟩:=h;rfl
 ·obtain ⟨p,l,ss,ts,tps,N,rfl,hB,hlp,hP,hD,q⟩:=h
  have hu:=qah hr
  have hfew:=hD.few
  refine ⟨_,(qb (qu (i:=2) sc_l_pairs.nd rfl (Or.inl rfl) (zj (qbR (K:=K) rfl rfl) rfl T.b_list boot_list (qa (pv 1) qd)))
 (qb (qu (i:=3) sc_l_pairs.nd rfl (Or.inl rfl) zr)
 (qb (qu (i:=4) sc_l_pairs.nd rfl (Or.inl rfl) (jv qd))
 (qb (ps_while PassesOwn.never (qv (qaK (K:=K) rfl hu) (pv 2) (jv qd) (qA _))
 (qb (jG (qdI (K:=K) rfl PySem.F.plainAttrs_list PySem.F.slot_list_pop PySem.F.type_list_pop mtR_popAt (pv 2) (qa (qr D_l_take (hmR hr) qz (qa (pv 0) (qa (qm (jX (K:=K) rfl) rfl T.b_len boot_len (qa (pv 2) qd)) qd))) qd)) (qb2 rfl (jQ (qw (i:=5) sc_l_pairs.nd rfl (Or.inl rfl)) (jQ (qw (i:=6) sc_l_pairs.nd rfl (Or.inl rfl)) qbe))))
 (qf (qL (PW.pt (qav (qv (jT (K:=K) rfl hu) (pv 5) (pv 3) (by with_unfolding_all rfl)) (qav (qv (jT (K:=K) rfl hu) (pv 6) (pv 3) (by with_unfolding_all rfl)) (qab (qv qcD (qr D_l_take (hmR hr) qz (qa (pv 0) (qa qg qd))) qg (qA _)))))) (qb (jG jp (jV (pv 3) (pv 5) (jZ hu)))
 (qb (jG jp (jV (pv 3) (pv 6) (jZ hu)))
 (qf (qU (qdI (K:=K) rfl PySem.F.plainAttrs_list PySem.F.slot_list_append PySem.F.type_list_append jf (pv 4) (qa (qx (qy (K:=K) rfl hu) (jv (qa (jJ (qa (pv 5) (qa (pv 6) qd))) (qa (jJ (qa (pv 6) (qa (pv 5) qd))) qd))) (qr D_l_take (hmR hr) qz (qa (pv 0) (qa qg qd))) (fun _ _=>rfl)) qd)))))) qq))))
 (qf (qp (pv 4))))))),?_⟩
  ext
  refine .inl ⟨l,_,rfl,.inl (.of hP.1),fun lf hlf=>?_⟩
  have plf:=hB.apart hlf
  have s1:=qX (Sr H) (o:=.lst (ts.map V.ref)) hlf
  have e1:upd H lf (.lst (ts.map V.ref)) lf=some (.lst (ts.map V.ref)):=qc
  generalize upd H lf (.lst (ts.map V.ref))=H1 at s1 e1
  ext
  intro fd' hfd
  have s2:=qX (Sr H1) (o:=.dK []) hfd
  have e2:upd H1 fd' (.dK []) fd'=some (.dK (qay [])):=qc
  generalize upd H1 fd' (.dK [])=H2 at s2 e2
  ext
  refine ⟨by show 0≤sizeLine;decide,fun pr hpr=>?_⟩
  have s3:=qX (Sr H2) (o:=.lst []) hpr
  have e3:upd H2 pr (.lst []) pr=some (.lst (([]:List Addr).map V.ref)):=qc
  generalize upd H2 pr (.lst [])=H3 at s3 e3
  have s02:=s1.trans s2
  have s03:=s02.trans s3
  have hfd0:=s1.free hfd
  have hpr0:=s02.free hpr
  have ppr:=(hB.same s02).apart hpr
  have nlf:lf≠pr:=fun z=>by rw [← z,s2 _ _ e1] at hpr;cases hpr
  have nfp:fd'≠pr:=fun z=>by rw [← z,e2] at hpr;cases hpr
  have nfl:fd'≠lf:=fun z=>by rw [z,e1] at hfd;cases hfd
  have pfd:=(hB.same s1).apart hfd
  ext
  obtain ⟨W,hW0⟩:∃ W:Nat→L2.St→Hp→Prop,W=fun m σ J=>∃ (us:List Addr) (ups qs:List (Str×Str)) (ps:List Addr) (seen:List Str) (y5 y6:Option V),σ=[some (.ref p),some (.ref l),some (.ref lf),some (.ref fd'),some (.ref pr),y5,y6]∧But p H J∧PL J lf us ups∧(∀ ab∈ups,ab∈tps)∧J fd'=some (.dK (qay seen))∧(∀ n,n∈seen↔n∈qi qs)∧seen.length≤60∧PL J pr ps qs∧(qi qs).Nodup∧(∀ q∈qs,q∈tps∨(q.2,q.1)∈tps)∧qs.length + us.length≤30∧seen.length=2 * qs.length∧Pn (N + 3 * us.length) J p∧us.length≤m:=⟨_,rfl⟩
  refine ⟨W,⟨ts.length,by rw [hW0];exact ⟨ts,tps,[],[],[],_,_,rfl,fun c o _ e=>s03 c o e,⟨s3 _ _ (s2 _ _ e1),hP.2.mono fun _ _ z=>s03 _ _ z⟩,fun _ h=>h,s3 _ _ e2,fun n=>Iff.rfl,by decide,⟨e3,.nil⟩,.nil,(fun _ h=>by cases h),by have:=hP.2.len;simp;omega,rfl,(hB.same s03).mono (by have:=hP.2.len;omega),yh _⟩⟩,fun m σ J hW=>?_⟩
  rw [hW0] at hW
  obtain ⟨us,ups,qs,ps,seen,y5,y6,rfl,bJ,hPL,hup,efd,hsn,hsl,hPP,hnd,hok,hql,hs2,hBJ,hm⟩:=hW
  have hul:=hPL.2.len
  ext
  refine ⟨by show 0≤sizeLine;decide,fun e he0=>?_⟩
  have s4:=qX (Sr J) (o:=.lst []) he0
  have ee:upd J e (.lst []) e=some (.lst []):=qc
  generalize upd J e (.lst [])=J4 at s4 ee
  refine ne_nil (s4 _ _ hPL.1) ee ?_
  cases us with
  | nil =>
   ext
   refine yq ?_
   ext
   have b4:But p H J4:=fun c o hc z=>s4 _ _ (bJ c o hc z)
   exact q pr ps qs J4 b4 ((hBJ.same s4).mono (by simp)) hpr0 ppr (hPP.same s4) ⟨hnd,hok,by omega⟩
  | cons u0 us0 =>
   have hus:(u0::us0).length≤30:=by omega
   generalize hul0:(u0::us0).length=nu at *
   have hnu:0 < nu:=by rw [← hul0];simp
   generalize u0::us0=us at *
   have hne:(!(us.map V.ref).isEmpty)=true:=by
    cases us with
    | nil=>simp at hul0;omega
    | cons _ _=>rfl
   rw [hne]
   ext
   refine j9 ⟨fun σ' H'=>∃ m',m' < m∧W m' σ' H',fun σ' H' z=>z,?_⟩
   ext
   refine qf7 ?_
   ext
   refine ⟨.inl ⟨rfl,_,.of (s4 _ _ hPL.1)⟩,?_⟩
   ext
   refine qaU (s4 _ _ hPL.1) ?_
   rw [ya,hul0]
   ext
   refine ⟨p,nu,N + 3 * nu - 1,rfl,(hBJ.same s4).mono (by omega),by omega,by omega,fun d J5 hd b5 hB5=>?_⟩
   have npt:∀ {c:Addr} {ab:Str×Str},J c=some (.tup [.str ab.1,.str ab.2])→c≠p:=fun z e=>by obtain ⟨u,v,w,e2,_⟩:=hBJ;rw [e,e2] at z;cases z
   have bJ5:But p J J5:=fun c o hc z=>b5 _ _ hc (s4 c o z)
   have hPL5:PL J5 lf us ups:=⟨bJ5 _ _ plf hPL.1,hPL.2.mono fun _ _ z=>bJ5 _ _ (npt z) z⟩
   have hPP5:PL J5 pr ps qs:=⟨bJ5 _ _ ppr hPP.1,hPP.2.mono fun _ _ z=>bJ5 _ _ (npt z) z⟩
   have efd5:=bJ5 _ _ pfd efd
   obtain ⟨u,hu2⟩:∃ u,us[d]?=some u:=⟨_,yb (by omega)⟩
   obtain ⟨ab,hab⟩:∃ ab,ups[d]?=some ab:=⟨_,yb (by rw [← hPL.2.len];omega)⟩
   have eu5:=hPL5.2.at_ d u ab hu2 hab
   have habt:=hup ab (ye hab)
   refine ⟨lf,_,(d:Int),d,.ref u,rfl,rfl,hPL5.1,by omega,by omega,ix_nat (by rw [ya];omega),by rw [yd,hu2];rfl,?_⟩
   rw [qcw]
   have ntl:∀ {c:Addr} {q:Str×Str},J5 c=some (.tup [.str q.1,.str q.2])→c≠lf:=fun z e=>by rw [e,hPL5.1] at z;cases z
   have e6:upd J5 lf (.lst ((us.eraseIdx d).map V.ref)) lf=some (.lst ((us.eraseIdx d).map V.ref)):=qc
   have k6:∀ c o,c≠lf→J5 c=some o→upd J5 lf (.lst ((us.eraseIdx d).map V.ref)) c=some o:=fun c o hc z=>by rw [qh hc];exact z
   generalize upd J5 lf (.lst ((us.eraseIdx d).map V.ref))=J6 at e6 k6
   have hPL6:PL J6 lf (us.eraseIdx d) (ups.eraseIdx d):=⟨e6,(hPL5.2.erase d).mono fun _ _ z=>k6 _ _ (ntl z) z⟩
   have hPP6:PL J6 pr ps qs:=⟨k6 _ _ (Ne.symm nlf) hPP5.1,hPP5.2.mono fun _ _ z=>k6 _ _ (ntl z) z⟩
   have efd6:=k6 _ _ nfl efd5
   have eu6:=k6 _ _ (ntl eu5) eu5
   have hB6:Pn (N + 3 * nu - 1) J6 p:=by
    obtain ⟨a1,a2,a3,a4,a5⟩:=hB5
    exact ⟨a1,a2,a3,k6 _ _ (Ne.symm plf) a4,a5⟩
   have b06:But p H J6:=fun c o hc z=>k6 _ _ (fun e=>by rw [e,hlf] at z;cases z) (bJ5 _ _ hc (bJ c o hc z))
   have hel:(us.eraseIdx d).length=nu - 1:=by rw [List.length_eraseIdx,hul0,if_pos (by omega)]
   have hup6:∀ q∈ups.eraseIdx d,q∈tps:=fun q hq=>hup q (List.mem_of_mem_eraseIdx hq)
   have fin:∀ J7,But p J6 J7→Pn (N + 3 * nu - 3) J7 p→(∀ c o,c=lf∨c=fd'∨c=pr→J6 c=some o→J7 c=some o)→∃ m',m' < m∧W m' [some (V.ref p),some (.ref l),some (.ref lf),some (.ref fd'),some (.ref pr),some (.str ab.1),some (.str ab.2)] J7:=fun J7 b7 hB7 k7=>by
    have npt6:∀ {c:Addr} {ab:Str×Str},J6 c=some (.tup [.str ab.1,.str ab.2])→c≠p:=fun z e=>by obtain ⟨u,v,w,e2,_⟩:=hB6;rw [e,e2] at z;cases z
    refine ⟨nu - 1,by omega,?_⟩
    rw [hW0]
    exact ⟨us.eraseIdx d,ups.eraseIdx d,qs,ps,seen,_,_,rfl,b06.trans7 b7,⟨k7 _ _ (.inl rfl) hPL6.1,hPL6.2.mono fun _ _ z=>b7 _ _ (npt6 z) z⟩,hup6,k7 _ _ (.inr (.inl rfl)) efd6,hsn,hsl,⟨k7 _ _ (.inr (.inr rfl)) hPP6.1,hPP6.2.mono fun _ _ z=>b7 _ _ (npt6 z) z⟩,hnd,hok,by omega,hs2,hB7.mono (by omega),by omega⟩
   refine ⟨u,_,rfl,.of eu6,rfl,_,_,rfl,_,_,rfl,rfl,?_⟩
   have dec:∀ n:Str,(zy (qay seen) (Sum.inr n:Key)).isSome=decide (n∈qi qs):=fun n=>by rw [zF];exact decide_eq_decide.mpr (hsn n)
   ext
   refine .inr (.inl ⟨fd',_,rfl,DGet.k (k:=Sum.inr ab.1) efd6,?_⟩)
   rw [if_pos rfl,dec]
   ext
   refine qI (fun h1=>?_) (fun h1=>?_)
   ·have n1:ab.1∉qi qs:=fun z=>by rw [decide_eq_true z] at h1;cases h1
    ext
    refine .inr (.inl ⟨fd',_,rfl,DGet.k (k:=Sum.inr ab.2) efd6,?_⟩)
    rw [if_pos rfl,dec]
    ext
    refine qI (fun h2=>?_) (fun h2=>?_)
    ·have n2:ab.2∉qi qs:=fun z=>by rw [decide_eq_true z] at h2;cases h2
     ext
     refine ⟨p,5,N + 3 * nu - 2,rfl,hB6.mono (by omega),by decide,by decide,fun d2 J7 hd2 b7 hB7=>?_⟩
     have npt6:∀ {c:Addr} {ab:Str×Str},J6 c=some (.tup [.str ab.1,.str ab.2])→c≠p:=fun z e=>by obtain ⟨u,v,w,e2,_⟩:=hB6;rw [e,e2] at z;cases z
     have k67:∀ c o,c=lf∨c=fd'∨c=pr→J6 c=some o→J7 c=some o:=fun c o hc z=>by
      rcases hc with rfl | rfl | rfl
      ·exact b7 _ _ plf z
      ·exact b7 _ _ pfd z
      ·exact b7 _ _ ppr z
     ext
     refine qI (fun h3=>?_) (fun h3=>?_)
     ·have hst:=hD.ok ab habt
      have m1:ab.1∉seen:=fun z=>n1 ((hsn _).mp z)
      have m2:ab.2∉seen:=fun z=>n2 ((hsn _).mp z)
      have efd7:=k67 _ _ (.inr (.inl rfl)) efd6
      have hPP7:PL J7 pr ps qs:=⟨k67 _ _ (.inr (.inr rfl)) hPP6.1,hPP6.2.mono fun _ _ z=>b7 _ _ (npt6 z) z⟩
      have hPL7:PL J7 lf (us.eraseIdx d) (ups.eraseIdx d):=⟨k67 _ _ (.inl rfl) hPL6.1,hPL6.2.mono fun _ _ z=>b7 _ _ (npt6 z) z⟩
      have b07:=b06.trans7 b7
      ext
      refine .inr ⟨fd',_,rfl,DPut.k (k:=Sum.inr ab.1) efd7 (qk (by unfold qay;rw [ya];omega)),?_⟩
      rw [qaR m1]
      have e8:upd J7 fd' (.dK (qay (seen++[ab.1]))) fd'=some (.dK (qay (seen++[ab.1]))):=qc
      have k8:∀ c o,c≠fd'→J7 c=some o→upd J7 fd' (.dK (qay (seen++[ab.1]))) c=some o:=fun c o hc z=>by rw [qh hc];exact z
      generalize upd J7 fd' (.dK (qay (seen++[ab.1])))=J8 at e8 k8
      ext
      refine .inr ⟨fd',_,rfl,DPut.k (k:=Sum.inr ab.2) e8 (qk (by unfold qay;rw [ya,List.length_append];simp only [List.length_cons,List.length_nil];omega)),?_⟩
      rw [qaR (fun z=>by rcases List.mem_append.mp z with z | z;exact m2 z;exact hst.2.2 (List.mem_singleton.mp z).symm)]
      have e9:upd J8 fd' (.dK (qay (seen++[ab.1]++[ab.2]))) fd'=some (.dK (qay (seen++[ab.1]++[ab.2]))):=qc
      have k9:∀ c o,c≠fd'→J7 c=some o→upd J8 fd' (.dK (qay (seen++[ab.1]++[ab.2]))) c=some o:=fun c o hc z=>by rw [qh hc];exact k8 _ _ hc z
      generalize upd J8 fd' (.dK (qay (seen++[ab.1]++[ab.2])))=J9 at e9 k9
      have ntf:∀ {c:Addr} {q:Str×Str},J7 c=some (.tup [.str q.1,.str q.2])→c≠fd':=fun z e=>by rw [e,efd7] at z;cases z
      have hPP9:PL J9 pr ps qs:=⟨k9 _ _ (Ne.symm nfp) hPP7.1,hPP7.2.mono fun _ _ z=>k9 _ _ (ntf z) z⟩
      have hPL9:PL J9 lf (us.eraseIdx d) (ups.eraseIdx d):=⟨k9 _ _ (Ne.symm nfl) hPL7.1,hPL7.2.mono fun _ _ z=>k9 _ _ (ntf z) z⟩
      have hB9:Pn (N + 3 * nu - 2) J9 p:=by
       obtain ⟨a1,a2,a3,a4,a5⟩:=hB7
       exact ⟨a1,a2,a3,k9 _ _ (Ne.symm pfd) a4,a5⟩
      have b09:But p H J9:=fun c o hc z=>k9 _ _ (fun e=>by rw [e,hfd0] at z;cases z) (b07 c o hc z)
      ext
      refine ⟨.inl ⟨rfl,_,.of hPP9.1⟩,?_⟩
      ext
      refine ⟨by show 2≤sizeLine;decide,fun t1 ht1=>?_⟩
      have s10:=qX (Sr J9) (o:=.tup [.str ab.1,.str ab.2]) ht1
      have et1:upd J9 t1 (.tup [.str ab.1,.str ab.2]) t1=some (.tup [.str ab.1,.str ab.2]):=qc
      generalize upd J9 t1 (.tup [.str ab.1,.str ab.2])=J10 at s10 et1
      ext
      refine ⟨by show 2≤sizeLine;decide,fun t2 ht2=>?_⟩
      have s11:=qX (Sr J10) (o:=.tup [.str ab.2,.str ab.1]) ht2
      have et2:upd J10 t2 (.tup [.str ab.2,.str ab.1]) t2=some (.tup [.str ab.2,.str ab.1]):=qc
      generalize upd J10 t2 (.tup [.str ab.2,.str ab.1])=J11 at s11 et2
      ext
      refine ⟨by show 2≤sizeLine;decide,fun g hg=>?_⟩
      have s12:=qX (Sr J11) (o:=.lst [.ref t1,.ref t2]) hg
      have eg:upd J11 g (.lst [.ref t1,.ref t2]) g=some (.lst [.ref t1,.ref t2]):=qc
      generalize upd J11 g (.lst [.ref t1,.ref t2])=J12 at s12 eg
      have s9:=(s10.trans s11).trans s12
      have hB12:=hB9.same s9
      have pg:g≠p:=(hB9.same (s10.trans s11)).apart hg
      ext
      refine ⟨p,2,N + 3 * nu - 3,rfl,hB12.mono (by omega),by decide,by decide,fun d3 J13 hd3 b13 hB13=>?_⟩
      have npt12:∀ {c:Addr} {ab:Str×Str},J12 c=some (.tup [.str ab.1,.str ab.2])→c≠p:=fun z e=>by obtain ⟨u,v,w,e2,_⟩:=hB12;rw [e,e2] at z;cases z
      obtain ⟨t,q0,ht,et,hq0⟩:∃ (t:Addr) (q0:Str×Str),[V.ref t1,.ref t2][d3]?=some (.ref t)∧J13 t=some (.tup [.str q0.1,.str q0.2])∧(q0=ab∨q0=(ab.2,ab.1)):=by
       have h2:d3=0∨d3=1:=by omega
       rcases h2 with rfl | rfl
       ·exact ⟨t1,ab,rfl,b13 _ _ (npt12 (s12 _ _ (s11 _ _ et1))) (s12 _ _ (s11 _ _ et1)),.inl rfl⟩
       ·exact ⟨t2,(ab.2,ab.1),rfl,b13 _ _ (npt12 (ab:=(ab.2,ab.1)) (s12 _ _ et2)) (s12 _ _ et2),.inr rfl⟩
      refine .inl (zk (b13 _ _ pg eg) (v:=.ref t) (qt ht) ?_)
      have b913:But p J9 J13:=fun c o hc z=>b13 _ _ hc (s9 c o z)
      have npt9:∀ {c:Addr} {ab:Str×Str},J9 c=some (.tup [.str ab.1,.str ab.2])→c≠p:=fun z e=>by obtain ⟨u,v,w,e2,_⟩:=hB9;rw [e,e2] at z;cases z
      have hPP13:PL J13 pr ps qs:=⟨b913 _ _ ppr hPP9.1,hPP9.2.mono fun _ _ z=>b913 _ _ (npt9 z) z⟩
      have hPL13:PL J13 lf (us.eraseIdx d) (ups.eraseIdx d):=⟨b913 _ _ plf hPL9.1,hPL9.2.mono fun _ _ z=>b913 _ _ (npt9 z) z⟩
      have efd13:=b913 _ _ pfd e9
      have b013:=b09.trans7 b913
      ext
      have hpl:=hPP13.2.len
      refine ⟨pr,_,_,rfl,rfl,hPP13.1,by rw [ya];exact qk (by omega),?_⟩
      have ntp:∀ {c:Addr} {q:Str×Str},J13 c=some (.tup [.str q.1,.str q.2])→c≠pr:=fun z e=>by rw [e,hPP13.1] at z;cases z
      have hnq:∀ n,n∈qi (qs++[q0])↔n∈qi qs∨n=ab.1∨n=ab.2:=fun n=>by
       rw [qaj,List.mem_append]
       rcases hq0 with rfl | rfl
       ·simp
       ·simp only [List.mem_cons,List.not_mem_nil,or_false]
        constructor
        ·rintro (z | z | z)
         ·exact .inl z
         ·exact .inr (.inr z)
         ·exact .inr (.inl z)
        ·rintro (z | z | z)
         ·exact .inl z
         ·exact .inr (.inr z)
         ·exact .inr (.inl z)
      refine ⟨nu - 1,by omega,?_⟩
      rw [hW0]
      refine ⟨us.eraseIdx d,ups.eraseIdx d,qs++[q0],ps++[t],seen++[ab.1]++[ab.2],_,_,rfl,fun c o hc z=>?_,⟨?_,?_⟩,hup6,?_,fun n=>?_,?_,⟨by rw [qc,List.map_append];rfl,?_⟩,?_,fun q hq=>?_,?_,?_,?_,by omega⟩
      ·rw [qh (fun e=>by rw [e,hpr0] at z;cases z)];exact b013 c o hc z
      ·rw [qh nlf];exact hPL13.1
      ·exact hPL13.2.mono fun _ _ z=>by rw [qh (ntp z)];exact z
      ·rw [qh nfp];exact efd13
      ·rw [hnq n,List.mem_append,List.mem_append,hsn n]
       simp only [List.mem_cons,List.not_mem_nil,or_false]
       exact or_assoc
      ·simp only [List.length_append,List.length_cons,List.length_nil];omega
      ·exact All2.snoc (hPP13.2.mono fun _ _ z=>by rw [qh (ntp z)];exact z) (by rw [qh (ntp et)];exact et)
      ·rw [qaj]
       refine List.nodup_append.mpr ⟨hnd,?_,fun x hx y hy e=>?_⟩
       ·rcases hq0 with rfl | rfl
        ·simp [hst.2.2]
        ·simp [Ne.symm hst.2.2]
       ·subst e
        rcases hq0 with rfl | rfl
        ·simp only [List.mem_cons,List.not_mem_nil,or_false] at hy
         rcases hy with rfl | rfl
         ·exact n1 hx
         ·exact n2 hx
        ·simp only [List.mem_cons,List.not_mem_nil,or_false] at hy
         rcases hy with rfl | rfl
         ·exact n2 hx
         ·exact n1 hx
      ·rcases List.mem_append.mp hq with z | z
       ·exact hok q z
       ·rw [List.mem_singleton.mp z]
        rcases hq0 with rfl | rfl
        ·exact .inl habt
        ·exact .inr habt
      ·rw [List.length_append];simp only [List.length_cons,List.length_nil];omega
      ·simp only [List.length_append,List.length_cons,List.length_nil];omega
      ·obtain ⟨a1,a2,a3,a4,a5⟩:=hB13.mono (show N + 3 * (us.eraseIdx d).length≤N + 3 * nu - 3 by omega)
       exact ⟨a1,a2,a3,by rw [qh (Ne.symm ppr)];exact a4,a5⟩
     ·exact fin J7 b7 (hB7.mono (by omega)) k67
    ·refine yq ?_
     ext
     exact fin J6 (fun c o _ z=>z) (hB6.mono (by omega)) fun c o _ z=>z
   ·refine yq ?_
    ext
    exact fin J6 (fun c o _ z=>z) (hB6.mono (by omega)) fun c o _ z=>z
abbrev zf:Stmt:=top 41
theorem sc_l_rising:FnScope ["_law_names_here", "_law_partners_here", "_law_found", "_law_k", "_law_later"] ["_law_names_here", "_law_partners_here"] (qe zf):=fS
theorem fil_drop {ss:List Str} (hn:ss.Nodup) (i:Nat) (C:Str→Bool):ss.filter (fun o=>decide (i < ss.idxOf o)&&C o)=(ss.drop (i + 1)).filter C:=by
 have e:ss.filter (fun o=>decide (i < ss.idxOf o)&&C o)=(ss.take (i + 1)).filter (fun o=>decide (i < ss.idxOf o)&&C o)++(ss.drop (i + 1)).filter (fun o=>decide (i < ss.idxOf o)&&C o):=by
  rw [← List.filter_append,List.take_append_drop]
 rw [e]
 have e1:(ss.take (i + 1)).filter (fun o=>decide (i < ss.idxOf o)&&C o)=[]:=List.filter_eq_nil_iff.mpr fun o ho=>by
  obtain ⟨j,hj⟩:=yf ho
  have hjl:j < i + 1:=by
   have:=(yc.mp hj).1
   rw [List.length_take] at this
   omega
  rw [List.getElem?_take,if_pos hjl] at hj
  rw [qeb hn hj,yl (by omega)]
  simp
 have e2:(ss.drop (i + 1)).filter (fun o=>decide (i < ss.idxOf o)&&C o)=(ss.drop (i + 1)).filter C:=List.filter_congr fun o ho=>by
  obtain ⟨j,hj⟩:=yf ho
  rw [List.getElem?_drop] at hj
  rw [qeb hn hj,decide_eq_true (by omega)]
  simp
 rw [e1,e2,List.nil_append]
theorem qdv {s t:Str}:∀ {qs:List (Str×Str)},pt qs s=some t→(s,t)∈qs∨(t,s)∈qs
 | [],h=>by cases h
 | q::r,h=>by
  unfold pt at h
  split at h
  ·rename_i e;cases h;exact .inl (by rw [← e];simp)
  ·split at h
   ·rename_i e;cases h;exact .inr (by rw [← e];simp)
   ·rcases qdv h with z | z
    ·exact .inl (List.mem_cons_of_mem _ z)
    ·exact .inr (List.mem_cons_of_mem _ z)
theorem vNeI7 {K:W.Frag} {H:Hp} {i j:Int} {Q:VK} (q:Q (.bl (!decide (i=j))) H):qe3 K true (.int i) (.int j) H Q:=.inl ⟨rfl,rfl,by
 have:=qds i j
 rw [if_neg (by decide)] at this
 rw [if_pos rfl,this]
 exact q⟩
theorem qcV {K:W.Frag} {H:Hp} {n:Addr} {ss:List Str} {z:Str} {Q:VK} (hn:H n=some (.lst (ss.map V.str))) (q:Q (.bl (!decide (z∈ss))) H):qe4 K true (.str z) (.ref n) H Q:=
 .inl ⟨n,_,rfl,.inl (.of hn),rfl,List.all_eq_true.mpr fun x hx=>by (obtain ⟨s,_,rfl⟩:=List.mem_map.mp hx;rfl),by rw [if_pos rfl,qec];exact q⟩
theorem str_in {K:W.Frag} {H:Hp} {n:Addr} {ss:List Str} {z:Str} {Q:VK} (hn:H n=some (.lst (ss.map V.str))) (q:Q (.bl (decide (z∈ss))) H):qe4 K false (.str z) (.ref n) H Q:=
 .inl ⟨n,_,rfl,.inl (.of hn),rfl,List.all_eq_true.mpr fun x hx=>by (obtain ⟨s,_,rfl⟩:=List.mem_map.mp hx;rfl),by rw [if_neg (by decide),qec];exact q⟩
def qff (p:Addr) (H:Hp):Hp:=fun b=>if b=p then none else H b
theorem qcW {p b:Addr} {H:Hp} (h:b≠p):qff p H b=H b:=if_neg h
theorem outH_sub (p:Addr) (H:Hp):L2.Same (qff p H) H:=fun b o e=>by
 unfold qff at e
 split at e
 ·cases e
 ·exact e
theorem outH_but {p:Addr} {H H':Hp} (b:But p H H'):L2.Same (qff p H) (qff p H'):=fun c o e=>by
 by_cases h:c=p
 ·unfold qff at e;rw [if_pos h] at e;cases e
 ·rw [qcW h] at e ⊢;exact b c o h e
def Sn (p:Addr) (H:Hp) (v:V) (n m:Nat):Prop:=∃ d,Dat (qff p H) v d∧Shw d n m
theorem Sn.but {p:Addr} {H H':Hp} {v:V} {n m:Nat} (h:Sn p H v n m) (b:But p H H'):Sn p H' v n m:=h.elim fun d h=>⟨d,h.1.same (outH_but b),h.2⟩
theorem name_small {x:Str} (h:j3 x=true):∀ c∈x.cps.toList,c < 16 ^ 8:=by
 intro c hc
 unfold j3 at h
 split at h
 ·have hs:=List.all_eq_true.mp h c hc
  by_cases hlt:c < 16 ^ 8
  ·exact hlt
  ·exfalso
   unfold sg at hs
   split at hs
   ·have h2:("z":Str).cps.toList=[122]:=rfl
    rw [h2] at hs
    have:([122]:List Nat) < [c]:=List.Lex.rel (by omega)
    simp [this] at hs
   ·cases hs
 ·cases h
theorem qbX {p:Addr} {J:Hp} {n m:Nat}:∀ {xs:List V},(∀ y∈xs,Sn p J y n m)→∃ ds,DatS (qff p J) xs ds∧ShwS ds ((n + 1) * xs.length) m
 | [],_=>⟨[],.nil,ShwS.nil⟩
 | x::xs,h=>by
  obtain ⟨d,d1,d2⟩:=h x List.mem_cons_self
  obtain ⟨ds,e1,e2⟩:=qbX fun y hy=>h y (List.mem_cons_of_mem _ hy)
  refine ⟨d::ds,.cons d1 e1,(ShwS.cons d2 e2).mono ?_ (yh _)⟩
  rw [List.length_cons,Nat.mul_succ]
  omega
theorem Sn.lst {p a:Addr} {J:Hp} {n m:Nat} {xs:List V} (ha:J a=some (.lst xs)) (hap:a≠p) (h:∀ y∈xs,Sn p J y n m):Sn p J (.ref a) ((n + 1) * xs.length) (m + 1):=by
 obtain ⟨ds,e1,e2⟩:=qbX h
 exact ⟨_,.lst (by rw [qcW hap];exact ha) e1,e2.list⟩
theorem Sn.tup {p a:Addr} {J:Hp} {n m:Nat} {xs:List V} (ha:J a=some (.tup xs)) (hap:a≠p) (h:∀ y∈xs,Sn p J y n m):Sn p J (.ref a) ((n + 1) * xs.length) (m + 1):=by
 obtain ⟨ds,e1,e2⟩:=qbX h
 exact ⟨_,.tup (by rw [qcW hap];exact ha) e1,e2.tuple⟩
theorem Sn.mono {p:Addr} {J:Hp} {v:V} {n n' m m':Nat} (h:Sn p J v n m) (hn:n≤n') (hm:m≤m'):Sn p J v n' m':=h.elim fun d h=>⟨d,h.1,h.2.mono hn hm⟩
def Ok (p:Addr) (J:Hp) (k n m:Nat) (v:V):Prop:=Th p J k v∧Sn p J v n m
theorem Ok.but {p:Addr} {J J':Hp} {k n m:Nat} {v:V} (h:Ok p J k n m v) (b:But p J J'):Ok p J' k n m v:=⟨h.1.keep b,h.2.but b⟩
theorem Ok.same {p:Addr} {J J':Hp} {k n m:Nat} {v:V} (h:Ok p J k n m v) (s:L2.Same J J'):Ok p J' k n m v:=h.but fun c o _ e=>s c o e
theorem Ok.mono {p:Addr} {J:Hp} {k n n' m m':Nat} {v:V} (h:Ok p J k n m v) (hn:n≤n') (hm:m≤m'):Ok p J k n' m' v:=⟨h.1,h.2.mono hn hm⟩
theorem Ok.name {p:Addr} {J:Hp} {k m:Nat} {s:Str} (h:j3 s=true):Ok p J k 6 m (.str s):=by
 have:=j5 h
 exact ⟨.flat rfl (fun u e=>by cases e;omega),_,.str _,(Shw.str (name_small h)).mono this (yh _)⟩
theorem Ok.non {p:Addr} {J:Hp} {k n m:Nat}:Ok p J k n m .non:=⟨.flat rfl (fun u e=>by cases e),_,.non,Shw.non.mono (Nat.zero_le _) (yh _)⟩
theorem Ok.bl {p:Addr} {J:Hp} {k n m:Nat} {b:Bool}:Ok p J k n m (.bl b):=⟨.flat rfl (fun u e=>by cases e),_,.bl _,Shw.bl.mono (Nat.zero_le _) (yh _)⟩
theorem Ok.int {p:Addr} {J:Hp} {k n m:Nat} {i:Int} (h1:-999999999999≤i) (h2:i≤999999999999):Ok p J k n m (.int i):=⟨.flat rfl (fun u e=>by cases e),_,.int _,(Shw.int h1 h2).mono (Nat.zero_le _) (yh _)⟩
theorem Ok.str {p:Addr} {J:Hp} {k n m:Nat} {s:Str} (h:∀ c∈s.cps.toList,c < 16 ^ 8) (hl:s.length≤n) (hl2:s.length≤1000):Ok p J k n m (.str s):=⟨.flat rfl (fun u e=>by cases e;omega),_,.str _,(Shw.str h).mono hl (yh _)⟩
theorem Ok.lst {p a:Addr} {J:Hp} {k n m:Nat} {xs:List V} (ha:J a=some (.lst xs)) (hap:a≠p) (hl:xs.length≤1000) (h:∀ y∈xs,Ok p J k n m y):Ok p J (k + 1) ((n + 1) * xs.length) (m + 1) (.ref a):=⟨.lst ha hap (fun y hy=>(h y hy).1) hl,.lst ha hap fun y hy=>(h y hy).2⟩
theorem Ok.tup {p a:Addr} {J:Hp} {k n m:Nat} {xs:List V} (ha:J a=some (.tup xs)) (hap:a≠p) (hl:xs.length≤1000) (h:∀ y∈xs,Ok p J k n m y):Ok p J (k + 1) ((n + 1) * xs.length) (m + 1) (.ref a):=⟨.tup ha hap (fun y hy=>(h y hy).1) hl,.tup ha hap fun y hy=>(h y hy).2⟩
theorem qhi {P:V→Prop} {a:V} (h1:P a):∀ y∈[a],P y:=fun y hy=>by rw [List.mem_singleton.mp hy];exact h1
theorem qgs {P:V→Prop} {a b:V} (h1:P a) (h2:P b):∀ y∈[a,b],P y:=fun y hy=>by rcases List.mem_cons.mp hy with rfl | h;exact h1;exact qhi h2 y h
abbrev zT:Stmt:=top 47
theorem sc_l_very:FnScope ["_law_found", "_law_thing", "_law_same"] ["_law_found", "_law_thing"] (qe zT):=fS
theorem qcX {H:Hp} {v:V} {d:PyData} (h:Dat H v d):∀ d',Dat H v d'→d'=d:=
 Dat.rec (H:=H) (motive_1:=fun v d _=>∀ d',Dat H v d'→d'=d) (motive_2:=fun vs ds _=>∀ ds',DatS H vs ds'→ds'=ds)
  (fun d' g=>by cases g;rfl) (fun b d' g=>by cases g;rfl) (fun i d' g=>by cases g;rfl) (fun x d' g=>by cases g;rfl)
  (fun {a xs ds} e _ ih d' g=>by
   cases g with
   | lst e' g'=>rw [e] at e';cases e';rw [ih _ g']
   | tup e' g'=>rw [e] at e';cases e'
   | dnil e'=>rw [e] at e';cases e')
  (fun {a xs ds} e _ ih d' g=>by
   cases g with
   | lst e' g'=>rw [e] at e';cases e'
   | tup e' g'=>rw [e] at e';cases e';rw [ih _ g']
   | dnil e'=>rw [e] at e';cases e')
  (fun {a} e d' g=>by
   cases g with
   | lst e' g'=>rw [e] at e';cases e'
   | tup e' g'=>rw [e] at e';cases e'
   | dnil e'=>rfl)
  (fun ds' g=>by cases g;rfl)
  (fun _ _ ih1 ih2 ds' g=>by
   cases g with
   | cons a b=>rw [ih1 _ a,ih2 _ b]) h
theorem dat_keep {H:Hp} {a:Addr} {o:HO} {d0:PyData} (h0:Dat H (.ref a) d0) {v:V} {d:PyData} (h:Dat H v d):d.depth < d0.depth→Dat (upd H a o) v d:=
 Dat.rec (H:=H) (motive_1:=fun v d _=>d.depth < d0.depth→Dat (upd H a o) v d) (motive_2:=fun vs ds _=>PyData.depthAll ds < d0.depth→DatS (upd H a o) vs ds)
  (fun _=>.non) (fun b _=>.bl b) (fun i _=>.int i) (fun x _=>.str x)
  (fun {b xs ds} e hs ih hl=>by
   have hb:b≠a:=fun z=>by subst z;rw [qcX h0 _ (.lst e hs)] at hl;exact Nat.lt_irrefl _ hl
   refine .lst (by rw [qh hb];exact e) (ih ?_)
   simp only [PyData.depth] at hl
   omega)
  (fun {b xs ds} e hs ih hl=>by
   have hb:b≠a:=fun z=>by subst z;rw [qcX h0 _ (.tup e hs)] at hl;exact Nat.lt_irrefl _ hl
   refine .tup (by rw [qh hb];exact e) (ih ?_)
   simp only [PyData.depth] at hl
   omega)
  (fun {b} e hl=>by
   have hb:b≠a:=fun z=>by subst z;rw [qcX h0 _ (.dnil e)] at hl;exact Nat.lt_irrefl _ hl
   exact .dnil (by rw [qh hb];exact e))
  (fun _=>.nil)
  (fun _ _ ih1 ih2 hl=>by
   simp only [PyData.depthAll] at hl
   exact .cons (ih1 (by omega)) (ih2 (by omega))) h
theorem qcx {H:Hp} {a:Addr} {o:HO} {d0:PyData} (h0:Dat H (.ref a) d0):∀ {vs:List V} {ds:List PyData},DatS H vs ds→PyData.depthAll ds < d0.depth→DatS (upd H a o) vs ds
 | _,_,.nil,_=>.nil
 | _,_,.cons g r,hl=>by
  simp only [PyData.depthAll] at hl
  exact .cons (dat_keep h0 g (by omega)) (qcx h0 r (by omega))
def qgN:Sp:=fun vs H Q _=>∃ (p:Addr) (v:V) (k:Nat),vs=[v,v]∧Ok p H k 4000 6 v∧∀ H',L2.Same H H'→Q (.bl true) H'
theorem ok_vy (F:Fun K "_law_very" "_law_very" zT f fd) (T:Txt K mg cc cw):FnOkW P w K mg base 1 f fd ["_law_found", "_law_thing"] qgN:=by
 refine F.okW sc_l_very (fun vs H Q E h=>?_) fun cdv A outer s H vs Q E hr h=>?_
 ·obtain ⟨p,v,k,rfl,_⟩:=h;rfl
 ·obtain ⟨p,v,k,rfl,⟨hv,d,hd0,hw⟩,q⟩:=h
  have hu:(A.deeper (envOfC "_law_very" (qe zT) s.heap.objs.size f cdv)).units + 100 < cLine:=by have h9:=hr.un;omega
  have hd:=hd0.same (outH_sub p H)
  have hw2:Shw d (2 ^ 20) 60:=hw.mono (by decide) (by decide)
  have e1:∀ t:Str,(if true=true then !eqV (V.str t) (V.str t) else eqV (V.str t) (V.str t))=false:=fun t=>by simp [eqV]
  have e2:∀ t:Str,(if false=true then !eqV (V.str t) (V.str t) else eqV (V.str t) (V.str t))=true:=fun t=>by simp [eqV]
  refine ⟨_,(qb (qL (qv (qaK (K:=K) rfl hu) (qm (qbS (K:=K) rfl hu hr.gd T.smod) rfl T.b_repr boot_repr (qa (pv 0) qd)) (qm (qbS (K:=K) rfl hu hr.gd T.smod) rfl T.b_repr boot_repr (qa (pv 1) qd)) (qA _)) (qf (qp jp)) qq)
 (qb (qL (qZ (qK (qm (qax (K:=K) rfl) rfl T.b_isinstance boot_isinstance (qa (pv 1) (qa (j6 (v:=.ty "list") rfl T.b_list boot_list rfl) qd))))) (qf (qp jp)) qq)
 (qb (qU (qdI (K:=K) rfl PySem.F.plainAttrs_list PySem.F.slot_list_append PySem.F.type_list_append jf (pv 1) (qa qg qd)))
 (qb (qu (i:=2) sc_l_very.nd rfl (Or.inl rfl) (qV (qaz (K:=K) rfl hu) (qm (qbS (K:=K) rfl hu hr.gd T.smod) rfl T.b_repr boot_repr (qa (pv 0) qd)) (qm (qbS (K:=K) rfl hu hr.gd T.smod) rfl T.b_repr boot_repr (qa (pv 1) qd)) (qA _)))
 (qb (qU (k_bm0 (K:=K) rfl PySem.F.plainAttrs_list PySem.F.slot_list_pop PySem.F.type_list_pop mtR_pop (pv 1)))
 (qf (qp (pv 2)))))))),?_⟩
  ext
  refine ⟨_,_,rfl,hd,hw2,?_⟩
  ext
  refine ⟨_,_,rfl,hd,hw2,?_⟩
  refine .inl ⟨rfl,rfl,?_⟩
  rw [e1]
  ext
  refine yq ?_
  ext
  by_cases hlist:∃ a xs,v=.ref a∧H a=some (.lst xs)
  ·obtain ⟨a,xs,rfl,ha⟩:=hlist
   have hxl:xs.length≤1000:=by
    cases hv with
    | lst e ne h l=>rw [ha] at e;cases e;exact l
    | tup e ne h l=>rw [ha] at e;cases e
    | dct e ne=>rw [ha] at e;cases e
    | flat f l=>cases f
   obtain ⟨ds,rfl,hds⟩:∃ ds,d=.list ds∧DatS H xs ds:=by
    cases hd with
    | lst e g=>rw [ha] at e;cases e;exact ⟨_,rfl,g⟩
    | tup e g=>rw [ha] at e;cases e
    | dnil e=>rw [ha] at e;cases e
   refine qaL (.inl (.lst ha)) rfl (j7 K "list" (by simp) "list" (by simp)) ?_
   ext
   refine yq ?_
   ext
   refine ⟨.inl ⟨rfl,_,.of ha⟩,?_⟩
   ext
   refine ⟨a,_,_,rfl,rfl,ha,(by rw [sizeLine_eq];omega),?_⟩
   have hdl:PyData.depthAll ds < (PyData.list ds).depth:=by simp only [PyData.depth];omega
   have hd1:Dat (upd H a (.lst (xs++[.int 0]))) (.ref a) (.list (ds++[.int 0])):=.lst qc ((qcx hd hds hdl).app (.cons (.int 0) .nil))
   have hs0:ShwS ds 4000 6:=⟨by simpa only [PyData.showable] using hw.s,by simpa only [PyData.leavesShort] using hw.l,by simpa only [PyData.bulk] using hw.b,by have:=hw.p;simp only [PyData.depth] at this;omega⟩
   have hw3:Shw (.list (ds++[.int 0])) (2 ^ 20) 60:=((hs0.app (.cons (Shw.int (by decide) (by decide)) .nil)).list).mono (by decide) (by decide)
   have ea:upd H a (.lst (xs++[.int 0])) a=some (.lst (xs++[.int 0])):=qc
   have sb:L2.Same H (upd (upd H a (.lst (xs++[.int 0]))) a (.lst xs)):=fun c o e=>by
    by_cases hc:c=a
    ·subst hc;rw [qc,← ha];exact e
    ·rw [qh hc,qh hc];exact e
   generalize upd H a (.lst (xs++[.int 0]))=H1 at hd1 ea sb
   ext
   refine ⟨_,_,rfl,hd1,hw3,?_⟩
   ext
   refine ⟨_,_,rfl,hd1,hw3,?_⟩
   refine .inl (.inl (.inl ⟨rfl,rfl,?_⟩))
   rw [e2]
   ext
   refine ⟨.inl ⟨rfl,_,.of ea⟩,?_⟩
   ext
   refine ⟨a,_,.int 0,rfl,rfl,ea,by simp,?_⟩
   rw [List.dropLast_concat]
   ext
   exact q _ sb
  ·have hno:∀ (a:Addr) (xs:List V),v=.ref a→H a≠some (.lst xs):=fun a xs e e'=>hlist ⟨a,xs,e,e'⟩
   obtain ⟨t,ht,he,ty⟩:∃ t:String,t∈["NoneType", "bool", "int", "str", "list", "tuple", "dict"]∧qcL t "list"=false∧TyOf K H v (.type t):=by
    cases hv with
    | flat f l =>
     cases v with
     | non=>exact ⟨_,by simp,rfl,.non⟩
     | bl b=>exact ⟨"bool",by simp,rfl,.bl b⟩
     | int i=>exact ⟨"int",by simp,rfl,.int i⟩
     | str z=>exact ⟨"str",by simp,rfl,.str z⟩
     | _=>cases f
    | lst e ne h l=>exact absurd e (hno _ _ rfl)
    | tup e ne h l=>exact ⟨"tuple",by simp,rfl,.tup e⟩
    | dct e ne=>exact ⟨"dict",by simp,rfl,.dK e⟩
   refine qaL (.inl ty) rfl (j7 K t ht "list" (by simp)) ?_
   rw [he]
   ext
   refine j9 ?_
   ext
   exact q H (Sr H)
structure LW (ss:List Str) (ns:List Nat) (tps:List (Str×Str)):Prop where
 o:NOk ss
 t:DT ss tps
 a:Adj ss ns tps
structure EA (cw p x n l:Addr) (ss:List Str) (ns:List Nat) (ts:List Addr) (tps:List (Str×Str)) (N:Nat) (H:Hp):Prop where
 pn:Pn N H p
 wb:WebP (fun a=>a=p) cw H x ss ns
 nm:H n=some (.lst (ss.map V.str))
 np:n≠p
 pl:PL H l ts tps
 lp:l≠p
theorem Pn.tup {N:Nat} {H:Hp} {p c:Addr} {xs:List V} (h:Pn N H p) (e:H c=some (.tup xs)):c≠p:=fun z=>by obtain ⟨u,v,w,e2,_⟩:=h;rw [z,e2] at e;cases e
theorem PL.but7 {p l:Addr} {N:Nat} {H H':Hp} {ts:List Addr} {tps:List (Str×Str)} (h:PL H l ts tps) (hp:Pn N H p) (hl:l≠p) (b:But p H H'):PL H' l ts tps:=⟨b _ _ hl h.1,h.2.mono fun _ _ z=>b _ _ (hp.tup z) z⟩
theorem EA.but {cw p x n l:Addr} {ss:List Str} {ns:List Nat} {ts:List Addr} {tps:List (Str×Str)} {N M:Nat} {H H':Hp} (h:EA cw p x n l ss ns ts tps N H) (b:But p H H') (hp:Pn M H' p):EA cw p x n l ss ns ts tps M H':=
 ⟨hp,h.wb.keep b,b _ _ h.np h.nm,h.np,h.pl.but7 h.pn h.lp b,h.lp⟩
theorem EA.same {cw p x n l:Addr} {ss:List Str} {ns:List Nat} {ts:List Addr} {tps:List (Str×Str)} {N:Nat} {H H':Hp} (h:EA cw p x n l ss ns ts tps N H) (s:L2.Same H H'):EA cw p x n l ss ns ts tps N H':=h.but (fun c o _ e=>s c o e) (h.pn.same s)
theorem qeG {H:Hp} {ss:List Str} {tps qs:List (Str×Str)} {h:Addr} {us:List Addr} (hO:NOk ss) (hT:DT ss tps) (hP:PL H h us qs) (hD:DP tps qs):GV H ss tps (.ref h) qs:=by
 refine ⟨h,_,rfl,hP.1,⟨by rw [ya,hP.2.len],fun k x q hx hq=>?_⟩,hD.nd⟩
 rw [yd] at hx
 obtain ⟨u,hu,rfl⟩:=yn.mp hx
 have eu:=hP.2.at_ k u q hu hq
 have ok:=hD.ok q (ye hq)
 have mm:q.1∈ss∧q.2∈ss∧q.1≠q.2:=by
  rcases ok with z | z
  ·exact hT.ok _ z
  ·obtain ⟨a,b,c⟩:=hT.ok _ z
   exact ⟨b,a,Ne.symm c⟩
 have ht:zv H ss (.ref u)=some q:=qcS eu (js mm.1 (hO.nm _ mm.1)) (js mm.2.1 (hO.nm _ mm.2.1)) mm.2.2
 unfold qbo
 rw [ht]
 exact if_pos ok
theorem qeH {ss:List Str} {tps qs:List (Str×Str)} (hT:DT ss tps) (hD:DP tps qs):∀ q∈qs,q.1∈ss∧q.2∈ss:=fun q hq=>by
 rcases hD.ok q hq with z | z
 ·exact ⟨(hT.ok _ z).1,(hT.ok _ z).2.1⟩
 ·exact ⟨(hT.ok _ z).2.1,(hT.ok _ z).1⟩
theorem qeI {p:Addr} {N:Nat} {H:Hp} {ss:List Str} {qs:List (Str×Str)} {h:Addr} {us:List Addr} (hO:NOk ss) (hin:∀ q∈qs,q.1∈ss∧q.2∈ss) (hp:Pn N H p) (hh:h≠p) (hP:PL H h us qs) (hl:qs.length≤1000):Th p H 3 (.ref h):=by
 refine .lst hP.1 hh (fun y hy=>?_) (by rw [ya,hP.2.len];exact hl)
 obtain ⟨u,hu,rfl⟩:=List.mem_map.mp hy
 obtain ⟨q,hq,eu⟩:=hP.2.mem hu
 obtain ⟨m1,m2⟩:=hin q hq
 have l1:=j5 (hO.nm _ m1)
 have l2:=j5 (hO.nm _ m2)
 exact .tup eu (hp.tup eu) (qgs (.flat rfl fun u e=>by cases e;omega) (.flat rfl fun u e=>by cases e;omega)) (by show 2≤1000;decide)
theorem PrAt.pl {H H':Hp} {l:Addr} {ls:List Addr} {qs:List (Str×Str)} (h1:H' l=some (.lst (ls.map V.ref))) (h2:All2 (PrAt H H' l) ls qs):PL H' l ls qs:=⟨h1,h2.mono fun _ _ z=>z.2.2⟩
def Hts (qs rs:List (Str×Str)):Prop:=∀ q∈qs,pt rs q.1=some q.2∧pt rs q.2=some q.1
theorem namesOf_mem {qs:List (Str×Str)} {s:Str}:s∈qi qs↔∃ q∈qs,s=q.1∨s=q.2:=by
 unfold qi
 rw [List.mem_flatMap]
 simp
theorem qgd {qs:List (Str×Str)} (h:(qi qs).Nodup):Hts qs qs:=by
 induction qs with
 | nil=>intro q hq;cases hq
 | cons p r ih =>
  have hnd:(p.1::p.2::qi r).Nodup:=h
  obtain ⟨d1,d2⟩:=yo.mp hnd
  obtain ⟨d3,d4⟩:=yo.mp d2
  have n12:p.1≠p.2:=fun e=>d1 (by rw [e];simp)
  have n1:p.1∉qi r:=fun e=>d1 (List.mem_cons_of_mem _ e)
  intro q hq
  rcases List.mem_cons.mp hq with rfl | hq
  ·unfold pt
   rw [if_pos rfl,if_neg n12,if_pos rfl]
   exact ⟨rfl,rfl⟩
  ·obtain ⟨a,b⟩:=ih d4 q hq
   have m1:q.1∈qi r:=namesOf_mem.mpr ⟨q,hq,.inl rfl⟩
   have m2:q.2∈qi r:=namesOf_mem.mpr ⟨q,hq,.inr rfl⟩
   unfold pt
   rw [if_neg (fun e=>n1 (by rw [e];exact m1)),if_neg (fun e=>d3 (by rw [e];exact m1)),if_neg (fun e=>n1 (by rw [e];exact m2)),if_neg (fun e=>d3 (by rw [e];exact m2))]
   exact ⟨a,b⟩
theorem zU (qs:List (Str×Str)):(qi qs).length=2 * qs.length:=by
 induction qs with
 | nil=>rfl
 | cons q r ih=>show (_::_::qi r).length=_;simp only [List.length_cons];rw [ih];omega
abbrev qG:Stmt:=top 15
theorem sc_are_unlike_places:FnScope ["web", "thing", "seen", "place"] ["web", "thing"] (qe qG):=fS
def unl (ss:List Str):List Str→List V→Bool
 | _,[]=>true
 | seen,x::r=>if qF ss x=true then (if qH x∈seen then false else unl ss (seen++[qH x]) r) else false
def qhj (cw:Addr):Sp:=fun vs H Q _=>∃ (p x:Addr) (ss:List Str) (ns:List Nat) (v:V),vs=[.ref x,v]∧WebAt cw H x ss ns∧Th p H 3 v ∧
 ((∃ (a:Addr) (xs:List V),v=.ref a∧H a=some (.lst xs)∧(∀ y∈xs,Th p H 2 y)∧xs.length≤1000∧∀ H',L2.Same H H'→Q (.bl (unl ss [] xs)) H')∨((∀ (a:Addr) (xs:List V),v=.ref a→H a≠some (.lst xs))∧∀ H',L2.Same H H'→Q (.bl false) H'))
theorem ok_ul (F:Fun K "are_unlike_places" "are_unlike_places" qG f fd) (T:Txt K mg cc cw) (D_Web_has_place:MethOk P w K mg base CX0 3 cw "has_place" ["self", "thing"] (qfw cw)):FnOk P w K mg base CX0 4 f fd ["web", "thing"] (qhj cw):=by
 refine F.ok sc_are_unlike_places (fun vs H Q E h=>?_) fun cdv A outer s H vs Q E hr h=>?_
 ·obtain ⟨p,x,ss,ns,v,rfl,_⟩:=h;rfl
 ·obtain ⟨p,x,ss,ns,v,rfl,hW,hv,hc⟩:=h
  have hu:=qah hr
  refine ⟨_,(qb (qL (qZ (qK (qm (qax (K:=K) rfl) rfl T.b_isinstance boot_isinstance (qa (pv 1) (qa (j6 (v:=.ty "list") rfl T.b_list boot_list rfl) qd))))) (qf (qp jp)) qq)
 (qb (qu (i:=2) sc_are_unlike_places.nd rfl (Or.inl rfl) zr)
 (qb (jm PassesOwn.never rfl (jK (K:=K) rfl (pv 1)) (qw (i:=3) sc_are_unlike_places.nd rfl (Or.inl rfl))
 (qb (qL (PW.pt (qaD (qZ (qK (zQ D_Web_has_place (hmR hr) (pv 0) (qa (pv 3) qd)))) (qau (qv (qa6 (K:=K) rfl hu) (pv 3) (pv 2) (by with_unfolding_all rfl))))) (qf (qp jp)) qq)
 (qf (jG jp (jV (pv 2) (pv 3) (jZ hu))))))
 (qf (qp jp))))),?_⟩
  ext
  rcases hc with ⟨a,xs,rfl,ha,hxs,hxl,q⟩ | ⟨hno,q⟩
  ·refine qaL (.inl (.lst ha)) rfl (j7 K "list" (by simp) "list" (by simp)) ?_
   ext
   refine yq ?_
   ext
   intro d hd
   have s1:=qX (Sr H) (o:=.dK []) hd
   have ed:upd H d (.dK []) d=some (.dK (qay [])):=qc
   generalize upd H d (.dK [])=H1 at s1 ed
   obtain ⟨wx,dd,ol,nn,hb,_⟩:=id hW
   ext
   refine .inl ⟨⟨_,.of (s1 _ _ ha)⟩,jq (xs:=xs) (fun i σ J=>L2.Same H J∧∃ y3,σ=[some (.ref x),some (.ref a),some (.ref d),y3]∧J d=some (.dK (qay ((xs.take i).map qH)))∧unl ss [] xs=unl ss ((xs.take i).map qH) (xs.drop i)) ⟨s1,_,rfl,ed,rfl⟩ (fun i σ J _ hp=>.of (hp.1 _ _ ha)) (fun i y σ J hy hp=>?_) fun σ J hp=>?_⟩
   ·obtain ⟨sJ,y3,rfl,edJ,hun⟩:=hp
    have hil:i < xs.length:=(yc.mp hy).1
    have hdr:xs.drop i=y::xs.drop (i + 1):=by
     rw [List.drop_eq_getElem_cons hil]
     have:=(yc.mp hy).2
     rw [this]
    have htk:xs.take (i + 1)=xs.take i++[y]:=by rw [List.take_add_one,hy];rfl
    rw [hdr] at hun
    have hty:=(hxs y (ye hy)).same sJ
    ext
    refine ⟨x,wx,_,rfl,sJ _ _ hb,qa7 (by decide +kernel),?_⟩
    ext
    refine ⟨p,2,x,ss,ns,y,rfl,hW.same sJ,hty,fun J2 s2=>?_⟩
    ext
    have s02:=sJ.trans s2
    cases hpl:qF ss y with
    | false =>
     refine j9 ?_
     ext
     rw [show unl ss ((xs.take i).map qH) (y::xs.drop (i + 1))=false by show (if qF ss y=true then _ else _)=_;rw [if_neg (by rw [hpl];decide)]] at hun
     have:=q J2 s02
     rwa [hun] at this
    | true =>
     refine yq ?_
     have hny:qat y=true:=by
      unfold qF at hpl
      split at hpl
      ·assumption
      ·cases hpl
     obtain ⟨ey,_,_⟩:=qS hny
     rw [show unl ss ((xs.take i).map qH) (y::xs.drop (i + 1))=(if qH y∈(xs.take i).map qH then false else unl ss ((xs.take i).map qH++[qH y]) (xs.drop (i + 1))) by show (if qF ss y=true then _ else _)=_;rw [if_pos hpl]] at hun
     have htk2:(xs.take (i + 1)).map qH=(xs.take i).map qH++[qH y]:=by rw [htk,List.map_append];rfl
     rw [← htk2] at hun
     generalize hz:qH y=z at hun htk2 ey
     subst ey
     ext
     refine .inr (.inl ⟨d,_,rfl,DGet.k (k:=Sum.inr z) (s2 _ _ edJ),?_⟩)
     rw [if_neg (by decide),zF]
     ext
     refine qI (fun hm=>?_) fun hm=>?_
     ·ext
      rw [if_pos (yk hm)] at hun
      have:=q J2 s02
      rwa [hun] at this
     ·have hm':z∉(xs.take i).map qH:=fun e=>hm (decide_eq_true e)
      rw [if_neg hm'] at hun
      ext
      refine .inr ⟨d,_,rfl,DPut.k (k:=Sum.inr z) (s2 _ _ edJ) (qk (by unfold qay;rw [ya,ya,List.length_take];omega)),?_⟩
      refine ⟨qbG s02 hd,_,rfl,?_,hun⟩
      rw [qc,qaR hm',htk2]
   ·obtain ⟨sJ,y3,rfl,edJ,hun⟩:=hp
    rw [List.drop_length] at hun
    ext
    have:=q J sJ
    rwa [hun] at this
  ·obtain ⟨t,ht,he,ty⟩:∃ t:String,t∈["NoneType", "bool", "int", "str", "list", "tuple", "dict"]∧qcL t "list"=false∧TyOf K H v (.type t):=by
    cases hv with
    | flat f l =>
     cases v with
     | non=>exact ⟨_,by simp,rfl,.non⟩
     | bl b=>exact ⟨"bool",by simp,rfl,.bl b⟩
     | int i=>exact ⟨"int",by simp,rfl,.int i⟩
     | str z=>exact ⟨"str",by simp,rfl,.str z⟩
     | _=>cases f
    | lst e ne h l=>exact absurd e (hno _ _ rfl)
    | tup e ne h l=>exact ⟨"tuple",by simp,rfl,.tup e⟩
    | dct e ne=>exact ⟨"dict",by simp,rfl,.dK e⟩
   refine qaL (.inl ty) rfl (j7 K t ht "list" (by simp)) ?_
   rw [he]
   ext
   refine j9 ?_
   ext
   exact q H (Sr H)
abbrev qD:Stmt:=top 16
theorem sc_goes_by_turns:FnScope ["web", "partners", "names", "steps", "paired"] ["web", "partners", "names"] (qe qD):=fS
def stp (rs:List Str):List (Str×Str):=rs.zip rs.tail
def tiB (tps:List (Str×Str)) (ab:Str×Str):Bool:=decide (ab∈tps∨(ab.2,ab.1)∈tps)
def prB (qs:List (Str×Str)) (ab:Str×Str):Bool:=decide (pt qs ab.1=some ab.2)
def qgt (bs:List Bool):Bool:=(bs.zip bs.tail).all fun q=>q.1 != q.2
def gbt (tps qs:List (Str×Str)) (rs:List Str):Bool:=(stp rs).all (tiB tps)&&qgt ((stp rs).map (prB qs))
theorem stp_at {rs:List Str} {j:Nat} {ab:Str×Str}:(stp rs)[j]?=some ab↔rs[j]?=some ab.1∧rs[j + 1]?=some ab.2:=by
 unfold stp
 rw [List.getElem?_zip_eq_some,List.getElem?_tail]
theorem qaB (rs:List Str):(stp rs).length=rs.length - 1:=by unfold stp;rw [List.length_zip,List.length_tail];omega
theorem nodup_step {rs:List Str} (h:rs.Nodup) {j:Nat} {ab:Str×Str} (e:(stp rs)[j]?=some ab):ab.1≠ab.2:=fun z=>by
 obtain ⟨e1,e2⟩:=stp_at.mp e
 rw [← z] at e2
 exact absurd (zJ h e1 e2) (by omega)
def qhk (cw:Addr):Sp:=fun vs H Q _=>∃ (x d a:Addr) (ss:List Str) (ns:List Nat) (tps qs:List (Str×Str)) (rs:List Str),vs=[.ref x,.ref d,.ref a]∧WebAt cw H x ss ns∧Adj ss ns tps∧H d=some (.dK (prK qs))∧H a=some (.lst (rs.map V.str)) ∧
 (∀ s∈rs,s∈ss∧j3 s=true)∧rs.Nodup∧rs.length≤1000∧∀ H',L2.Same H H'→Q (.bl (gbt tps qs rs)) H'
theorem ok_gt (F:Fun K "goes_by_turns" "goes_by_turns" qD f fd) (T:Txt K mg cc cw) (D_Web_has_tie:MethOk P w K mg base CX0 7 cw "has_tie" ["self", "thing"] (qgM cw)):FnOk P w K mg base CX0 8 f fd ["web", "partners", "names"] (qhk cw):=by
 refine F.ok sc_goes_by_turns (fun vs H Q E h=>?_) fun cdv A outer s H vs Q E hr h=>?_
 ·obtain ⟨x,d,a,ss,ns,tps,qs,rs,rfl,_⟩:=h;rfl
 ·obtain ⟨x,d,a,ss,ns,tps,qs,rs,rfl,hW,hA,hd,ha,hin,hnd,hl,q⟩:=h
  have hu:=qah hr
  obtain ⟨wx,dd,ol,nn,hb,_⟩:=id hW
  refine ⟨_,(qb (qu (i:=3) sc_goes_by_turns.nd rfl (Or.inl rfl) (qcP (K:=K) rfl rfl rfl rfl T.b_list T.b_zip (qa (pv 2) (qa (jS (qes (K:=K) rfl) (pv 2) (jH qg) zL) qd))))
 (qb (qL (qZ (qK (qm (qft (K:=K) rfl rfl) rfl T.b_all boot_all (qa (qae (sc:=qe qD) (XN:=["web", "partners", "names", "steps", "paired"]) ["step", "web"] 1 [0] rfl rfl rfl (by decide +kernel) rfl (by decide +kernel)
  (jK (K:=K) rfl (pv 3)) (fun _ _ _ _=>(qw (i:=0) (show (["step", "web"]:List Str).Nodup by decide +kernel) rfl (Or.inl rfl))) zO
  (fun _ _ _ _=>zP)
  (fun _ _ _ _=>(zQ D_Web_has_tie (hmR hr) (pv 1) (qa (pv 0) qd)))) qd)))) (qf (qp jp)) qq)
 (qb (qdX (sc:=qe qD) (XN:=["web", "partners", "names", "steps", "paired"]) ["step", "partners"] 1 [1] rfl rfl rfl (by decide +kernel) rfl (by decide +kernel) (i:=4) sc_goes_by_turns.nd rfl rfl
  (jK (K:=K) rfl (pv 3)) (fun _ _ _ _=>(qw (i:=0) (show (["step", "partners"]:List Str).Nodup by decide +kernel) rfl (Or.inl rfl))) zO
  (fun _ _ _ _=>zP)
  (fun _ _ _ _=>(qV (qaz (K:=K) rfl hu) (zt (qe6 hu) (pv 1) (qx (qy (K:=K) rfl hu) (pv 0) qg (fun _ _=>rfl)) ⟨rfl,rfl,rfl,rfl⟩) (qx (qy (K:=K) rfl hu) (pv 0) qg (fun _ _=>rfl)) (qA _))))
 (qf (qp (qm (qft (K:=K) rfl rfl) rfl T.b_all boot_all (qa (qae (sc:=qe qD) (XN:=["web", "partners", "names", "steps", "paired"]) ["one", "other"] 2 [] rfl rfl rfl (by decide +kernel) rfl (by decide +kernel)
  (pi_zip (K:=K) rfl rfl T.b_zip (qa (pv 4) (qa (jS (qes (K:=K) rfl) (pv 4) (jH qg) zL) qd))) (fun _ _ _ _=>(qb2 (n:=2) rfl (jQ (qw (i:=0) (show (["one", "other"]:List Str).Nodup by decide +kernel) rfl (Or.inl rfl)) (jQ (qw (i:=1) (show (["one", "other"]:List Str).Nodup by decide +kernel) rfl (Or.inl rfl)) qbe)))) gk_two
  (fun _ _ _ _=>zP)
  (fun _ _ _ _=>(qV (qaK (K:=K) rfl hu) (pv 0) (pv 1) (qA _)))) qd))))))),?_⟩
  ext
  refine vLZ ?_
  ext
  refine .inl ⟨a,_,rfl,SqL.of ha,fun c hc=>?_⟩
  have ec:qcz (rs.map V.str) (some 1) none=rs.tail.map V.str:=by
   have:=qaM (rs.map V.str) 1
   rw [← List.map_drop,List.drop_one] at this
   exact this
  rw [ec]
  have s1:=qX (Sr H) (o:=.lst (rs.tail.map V.str)) hc
  have hc1:upd H c (.lst (rs.tail.map V.str)) c=some (.lst (rs.tail.map V.str)):=qc
  generalize upd H c (.lst (rs.tail.map V.str))=H1 at s1 hc1
  ext
  refine ⟨a,c,_,_,rfl,SqL.of (s1 _ _ ha),SqL.of hc1,by rw [ya];exact hl,fun l ts H2 Z=>?_⟩
  have s02:=s1.trans Z.sm
  have hll:(stp rs).length≤1000:=by rw [qaB];omega
  have tl:ts.length=(stp rs).length:=by rw [Z.len,qaB,ya,ya,List.length_tail];omega
  have hAl:All2 (fun t ab=>H2 t=some (.tup [.str ab.1,.str ab.2])) ts (stp rs):=by
   refine ⟨tl,fun j t ab ht hab=>?_⟩
   obtain ⟨e1,e2⟩:=stp_at.mp hab
   obtain ⟨_,u,v,hu',hv',e⟩:=Z.tp j t ht
   rw [yd,e1] at hu'
   rw [yd,List.getElem?_tail,e2] at hv'
   cases hu'
   cases hv'
   exact e
  have hls:=Z.ls
  ext
  refine .inl ⟨⟨_,.of hls⟩,qaf (xs:=ts.map V.ref) (fun i ys G=>L2.Same H2 G∧ys=(((stp rs).take i).map (tiB tps)).map V.bl) ⟨L2.Same.refl H2,rfl⟩ (fun i ys G _ hp'=>.of (hp'.1 _ _ hls)) (fun i y ys G hy hp'=>?_) fun ys G hp'=>?_⟩
  ·obtain ⟨sG,rfl⟩:=hp'
   rw [yd] at hy
   obtain ⟨t,ht,rfl⟩:=yn.mp hy
   have hi:i < ts.length:=(yc.mp ht).1
   obtain ⟨ab,hab⟩:∃ ab,(stp rs)[i]?=some ab:=⟨_,yb (by rw [← tl];exact hi)⟩
   have et:=sG _ _ (hAl.at_ i t ab ht hab)
   obtain ⟨e1,e2⟩:=stp_at.mp hab
   obtain ⟨m1,n1⟩:=hin _ (ye e1)
   obtain ⟨m2,n2⟩:=hin _ (ye e2)
   have haG:=(s02.trans sG) _ _ ha
   have hta:t≠a:=fun z=>by rw [z,haG] at et;cases et
   ext
   refine j9 ?_
   ext
   refine ⟨x,wx,_,rfl,(s02.trans sG) _ _ hb,qa7 (by decide +kernel),?_⟩
   ext
   refine ⟨a,x,1,ss,ns,tps,.ref t,rfl,hW.same (s02.trans sG),hA,.tup et hta (fun y hy=>?_) (by show 2≤1000;decide),fun G2 sG2=>?_⟩
   ·simp only [List.mem_cons,List.not_mem_nil,or_false] at hy
    rcases hy with rfl | rfl
    ·exact .flat rfl fun z e=>by cases e;exact yi (qS (x:=.str ab.1) n1).2.2 (by decide)
    ·exact .flat rfl fun z e=>by cases e;exact yi (qS (x:=.str ab.2) n2).2.2 (by decide)
   ·have hv:(qbo G ss tps (.ref t)).isSome=tiB tps ab:=by
     unfold qbo
     rw [qcS et (js m1 n1) (js m2 n2) (nodup_step hnd hab)]
     dsimp only
     unfold tiB
     split
     ·rename_i z;rw [decide_eq_true z];rfl
     ·rename_i z;rw [yl z];rfl
    rw [hv]
    refine ⟨by rw [ya,ya,List.length_take];exact qk (by omega),sG.trans sG2,?_⟩
    rw [List.take_add_one,hab,List.map_append,List.map_append]
    rfl
  ·obtain ⟨sG,rfl⟩:=hp'
   rw [show (ts.map V.ref).length=(stp rs).length by rw [ya,tl],List.take_length]
   refine ⟨by rw [ya,ya];exact Nat.le_of_lt (qk (by omega)),fun g hg=>?_⟩
   have s3:=qX sG (o:=.lst (((stp rs).map (tiB tps)).map V.bl)) hg
   have eg:upd G g (.lst (((stp rs).map (tiB tps)).map V.bl)) g=some (.lst (((stp rs).map (tiB tps)).map V.bl)):=qc
   generalize upd G g (.lst (((stp rs).map (tiB tps)).map V.bl))=G3 at s3 eg
   ext
   refine ⟨g,_,rfl,SqL.of eg,_,rfl,?_⟩
   have ea:(((stp rs).map (tiB tps)).all id)=(stp rs).all (tiB tps):=by rw [List.all_map];rfl
   rw [ea]
   have s03:=s02.trans s3
   cases hal:(stp rs).all (tiB tps) with
   | false =>
    refine j9 ?_
    ext
    have:=q G3 s03
    unfold gbt at this
    rwa [hal] at this
   | true =>
    refine yq ?_
    have hls3:=s3 _ _ hls
    have hd3:=s03 _ _ hd
    ext
    refine .inl ⟨⟨_,.of hls3⟩,qaf (xs:=ts.map V.ref) (fun i ys G=>G=G3∧ys=(((stp rs).take i).map (prB qs)).map V.bl) ⟨rfl,rfl⟩ (fun i ys G _ hp'=>by rw [hp'.1];exact .of hls3) (fun i y ys G hy hp'=>?_) fun ys G hp'=>?_⟩
    ·obtain ⟨rfl,rfl⟩:=hp'
     rw [yd] at hy
     obtain ⟨t,ht,rfl⟩:=yn.mp hy
     have hi:i < ts.length:=(yc.mp ht).1
     obtain ⟨ab,hab⟩:∃ ab,(stp rs)[i]?=some ab:=⟨_,yb (by rw [← tl];exact hi)⟩
     have et:=s3 _ _ (hAl.at_ i t ab ht hab)
     ext
     refine j9 ?_
     ext
     refine qa2 ?_
     ext
     refine ⟨d,rfl,.inl ⟨_,.inl hd3⟩,?_⟩
     ext
     refine .inl (qbE et (v:=.str ab.1) (qt (j:=0) rfl) ?_)
     refine ⟨_,DGet.k (k:=Sum.inr ab.1) hd3,?_⟩
     rw [jz]
     ext
     refine .inl (qbE et (v:=.str ab.2) (qt (j:=1) rfl) ?_)
     refine qek ?_
     refine ⟨by rw [ya,ya,List.length_take];exact qk (by omega),rfl,?_⟩
     rw [List.take_add_one,hab,List.map_append,List.map_append]
     rfl
    ·obtain ⟨rfl,rfl⟩:=hp'
     rw [show (ts.map V.ref).length=(stp rs).length by rw [ya,tl],List.take_length]
     refine ⟨by rw [ya,ya];exact Nat.le_of_lt (qk (by omega)),fun b hb9=>?_⟩
     obtain ⟨bs,hbs⟩:∃ bs,bs=(stp rs).map (prB qs):=⟨_,rfl⟩
     rw [← hbs]
     have hbl:bs.length≤1000:=by rw [hbs,ya];exact hll
     have s4:=qX s03 (o:=.lst (bs.map V.bl)) hb9
     have eb:upd G b (.lst (bs.map V.bl)) b=some (.lst (bs.map V.bl)):=qc
     generalize upd G b (.lst (bs.map V.bl))=G4 at s4 eb
     ext
     refine vZip ?_
     ext
     refine .inl ⟨b,_,rfl,SqL.of eb,fun c2 hc2=>?_⟩
     have ec2:qcz (bs.map V.bl) (some 1) none=bs.tail.map V.bl:=by
      have:=qaM (bs.map V.bl) 1
      rw [← List.map_drop,List.drop_one] at this
      exact this
     rw [ec2]
     have s5:=qX s4 (o:=.lst (bs.tail.map V.bl)) hc2
     have eb5:=qX (Sr G4) (o:=.lst (bs.tail.map V.bl)) hc2 _ _ eb
     have ec5:upd G4 c2 (.lst (bs.tail.map V.bl)) c2=some (.lst (bs.tail.map V.bl)):=qc
     generalize upd G4 c2 (.lst (bs.tail.map V.bl))=G5 at s5 eb5 ec5
     ext
     refine ⟨b,c2,_,_,rfl,SqL.of eb5,SqL.of ec5,comp_zip (xs:=bs.map V.bl) (ys:=bs.tail.map V.bl) (by simp) (fun i zs J=>L2.Same G5 J∧zs=(((bs.zip bs.tail).take i).map fun q=>q.1 != q.2).map V.bl) ⟨L2.Same.refl G5,rfl⟩ (fun i zs J _ hp'=>⟨SqL.of (hp'.1 _ _ eb5),SqL.of (hp'.1 _ _ ec5)⟩) (fun i u v t zs J hu1 hv1 ht hp'=>?_) fun zs J hp'=>?_⟩
     ·obtain ⟨sJ,rfl⟩:=hp'
      rw [yd] at hu1 hv1
      obtain ⟨u,hu2,rfl⟩:=yn.mp hu1
      obtain ⟨v,hv2,rfl⟩:=yn.mp hv1
      clear hu1 hv1
      have sJ3:=qX sJ (o:=.tup [.bl u,.bl v]) ht
      refine ⟨t,_,rfl,.of qc,rfl,_,_,rfl,_,_,rfl,rfl,?_⟩
      generalize upd J t (.tup [.bl u,.bl v])=J3 at sJ3
      ext
      refine j9 ?_
      ext
      have hzl:((bs.zip bs.tail).take i).length≤1000:=by rw [List.length_take,List.length_zip];omega
      refine .inl ⟨rfl,rfl,?_⟩
      refine ⟨by rw [ya,ya];exact qk (by omega),sJ3,?_⟩
      have hz:(bs.zip bs.tail)[i]?=some (u,v):=List.getElem?_zip_eq_some.mpr ⟨hu2,hv2⟩
      rw [List.take_add_one,hz,List.map_append,List.map_append]
      cases u<;>cases v<;>rfl
     ·obtain ⟨sJ,rfl⟩:=hp'
      have hzl:(bs.zip bs.tail).length≤1000:=by rw [List.length_zip];omega
      rw [show (bs.tail.map V.bl).length=(bs.zip bs.tail).length by rw [ya,List.length_zip,List.length_tail];omega,List.take_length]
      refine ⟨by rw [ya,ya];exact Nat.le_of_lt (qk (by omega)),fun e he=>?_⟩
      have s6:=qX (s5.trans sJ) (o:=.lst (((bs.zip bs.tail).map fun q=>q.1 != q.2).map V.bl)) he
      have ee:upd J e (.lst (((bs.zip bs.tail).map fun q=>q.1 != q.2).map V.bl)) e=some (.lst (((bs.zip bs.tail).map fun q=>q.1 != q.2).map V.bl)):=qc
      generalize upd J e (.lst (((bs.zip bs.tail).map fun q=>q.1 != q.2).map V.bl))=J6 at s6 ee
      ext
      refine ⟨e,_,rfl,SqL.of ee,?_⟩
      have:=q J6 s6
      unfold gbt qgt at this
      rw [hal,← hbs,Bool.true_and] at this
      rw [List.all_map]
      exact this
abbrev qaq:Stmt:=top 14
theorem sc_is_row:FnScope ["web", "pairs", "thing", "partners"] ["web", "pairs", "thing"] (qe qaq):=fS
abbrev zg:Stmt:=top 17
theorem sc_can_turn:FnScope ["web", "pairs", "thing", "partners", "first", "last"] ["web", "pairs", "thing"] (qe zg):=fS
abbrev zV:Stmt:=top 18
theorem sc_turned:FnScope ["web", "pairs", "row", "partners", "steps"] ["web", "pairs", "row"] (qe zV):=fS
def rwL (ss:List Str) (tps qs:List (Str×Str)) (xs:List V):Bool:=unl ss [] xs&&decide (2≤xs.length)&&gbt tps qs (xs.map qH)
def okE (qs:List (Str×Str)) (s t:Str):Bool:=decide (pt qs s=none∨pt qs s=some t)
def frB (qs:List (Str×Str)) (rs:List Str):Bool:=okE qs (rs.getD 0 (qH .non)) (rs.getD 1 (qH .non))&&okE qs (rs.getD (rs.length - 1) (qH .non)) (rs.getD (rs.length - 2) (qH .non))
def ctL (ss:List Str) (tps qs:List (Str×Str)) (xs:List V):Bool:=rwL ss tps qs xs&&frB qs (xs.map qH)
def onL (H:Hp) (f:List V→Bool) (v:V):Bool:=match v with
 | .ref a=>(match H a with
  | some (.lst xs)=>f xs
  | _=>false)
 | _=>false
theorem jM {H:Hp} {f:List V→Bool} {a:Addr} {xs:List V} (e:H a=some (.lst xs)):onL H f (.ref a)=f xs:=by
 unfold onL
 dsimp only
 rw [e]
theorem qdw {H:Hp} {f:List V→Bool} {v:V} (h:∀ a xs,v=.ref a→H a≠some (.lst xs)):onL H f v=false:=by
 unfold onL
 split
 ·split
  ·rename_i a _ xs e;exact absurd e (h a xs rfl)
  ·rfl
 ·rfl
theorem qfg {ss:List Str}:∀ {xs:List V} {seen:List Str},unl ss seen xs=true→(∀ x∈xs,qF ss x=true)∧(xs.map qH).Nodup∧∀ x∈xs,qH x∉seen
 | [],seen,_=>⟨(fun x h=>by cases h),List.nodup_nil,(fun x h=>by cases h)⟩
 | x::r,seen,h=>by
  have h':(if qF ss x=true then (if qH x∈seen then false else unl ss (seen++[qH x]) r) else false)=true:=h
  split at h'
  ·rename_i h1
   split at h'
   ·cases h'
   ·rename_i h2
    obtain ⟨a,b,c⟩:=qfg h'
    refine ⟨fun y hy=>?_,yo.mpr ⟨fun z=>?_,b⟩,fun y hy=>?_⟩
    ·rcases List.mem_cons.mp hy with rfl | hy
     ·exact h1
     ·exact a y hy
    ·obtain ⟨y,hy,e⟩:=List.mem_map.mp z
     exact c y hy (by rw [e];simp)
    ·rcases List.mem_cons.mp hy with rfl | hy
     ·exact h2
     ·exact fun z=>c y hy (List.mem_append_left _ z)
  ·cases h'
theorem qaY {ss:List Str} {x:V} (h:qF ss x=true):x=.str (qH x)∧qH x∈ss∧j3 (qH x)=true:=by
 unfold qF at h
 split at h
 ·rename_i hn
  obtain ⟨e,n,_⟩:=qS hn
  exact ⟨e,yk h,n⟩
 ·cases h
theorem qak {ss:List Str} {xs:List V} (h:unl ss [] xs=true):xs=(xs.map qH).map V.str∧(∀ s∈xs.map qH,s∈ss∧j3 s=true)∧(xs.map qH).Nodup:=by
 obtain ⟨a,b,_⟩:=qfg h
 refine ⟨?_,fun s hs=>?_,b⟩
 ·rw [List.map_map]
  conv=>lhs;rw [← List.map_id xs]
  exact List.map_congr_left fun x hx=>(qaY (a x hx)).1
 ·obtain ⟨x,hx,rfl⟩:=List.mem_map.mp hs
  exact (qaY (a x hx)).2
theorem qbd {α:Type} {xs:List α} {j:Nat} {v:α} (h0:1≤j) (h1:j≤xs.length) (h:xs[xs.length - j]?=some v):atI xs (-(j:Int))=some v:=by
 have e:ixN xs.length (-(j:Int))=some (xs.length - j):=by
  unfold ixN
  rw [if_neg (by omega),if_pos (by omega)]
  congr 1
  omega
 unfold atI
 rw [e]
 exact h
theorem no_later {p:Addr} {n:Nat} {H H':Hp} {u:V} (h:Th p H n u) (no:∀ a xs,u=.ref a→H a≠some (.lst xs)) (s:L2.Same H H'):∀ a xs,u=.ref a→H' a≠some (.lst xs):=fun a xs e1 e2=>by
 subst e1
 cases h with
 | lst e ne h l=>exact no a _ rfl e
 | tup e ne h l=>rw [s _ _ e] at e2;cases e2
 | dct e ne=>rw [s _ _ e] at e2;cases e2
 | flat f l=>cases f
def qhl (cc:Nat→Addr) (cw:Addr):Sp:=fun vs H Q E=>∃ (p x:Addr) (ss:List Str) (ns:List Nat) (tps:List (Str×Str)) (v u:V),vs=[.ref x,v,u]∧WebAt cw H x ss ns∧Adj ss ns tps∧Th p H 3 v∧Th p H 3 u∧(apV H ss tps v=false→Rz cc H E (5,v)) ∧
 ∀ qs,GV H ss tps v qs→∀ H',L2.Same H H'→Q (.bl (onL H (rwL ss tps qs) u)) H'
def qhm (cc:Nat→Addr) (cw:Addr):Sp:=fun vs H Q E=>∃ (p x:Addr) (ss:List Str) (ns:List Nat) (tps:List (Str×Str)) (v u:V),vs=[.ref x,v,u]∧WebAt cw H x ss ns∧Adj ss ns tps∧Th p H 3 v∧Th p H 3 u∧(apV H ss tps v=false→Rz cc H E (5,v)) ∧
 ∀ qs,GV H ss tps v qs→∀ H',L2.Same H H'→Q (.bl (onL H (ctL ss tps qs) u)) H'
theorem qge {H:Hp} {t:Addr} {qs:List (Str×Str)} {s n:Str} {Q:VK} (e:H t=some (.tup [.non,.str n])) (q:Q (.bl (okE qs s n)) H):qe4 K false (((pt qs s).map V.str).getD .non) (.ref t) H Q:=by
 refine .inl ⟨t,_,rfl,.inr (SqT.of e),?_,rfl,?_⟩
 ·cases pt qs s<;>rfl
 ·have ev:inV (((pt qs s).map V.str).getD .non) [.non,.str n]=okE qs s n:=by
   unfold inV okE
   cases h:pt qs s with
   | none=>simp [eqV]
   | some m =>
    by_cases e:m=n
    ·subst e;simp [eqV]
    ·simp [eqV,e,Ne.symm e]
  rw [if_neg (by decide),ev]
  exact q
theorem ok_ir (F:Fun K "is_row" "is_row" qaq f fd) (T:Txt K mg cc cw) (D_partners_in:DefOk P w K mg base (CX1 P w) 9 "partners_in" ["web", "pairs"] (qgr cc cw)) (D_are_unlike_places:DefOk P w K mg base CX0 4 "are_unlike_places" ["web", "thing"] (qhj cw)) (D_goes_by_turns:DefOk P w K mg base CX0 8 "goes_by_turns" ["web", "partners", "names"] (qhk cw)):FnOk P w K mg base (CX1 P w) 10 f fd ["web", "pairs", "thing"] (qhl cc cw):=by
 refine F.ok1 sc_is_row (fun vs H Q E h=>?_) fun cdv A outer s H vs Q E hr h=>?_
 ·obtain ⟨p,x,ss,ns,tps,v,u,rfl,_⟩:=h;rfl
 ·obtain ⟨p,x,ss,ns,tps,v,u,rfl,hW,hA,hv,hu9,hE,q⟩:=h
  have hu:=qah hr
  refine ⟨_,(qb (qu (i:=3) sc_is_row.nd rfl (Or.inl rfl) (qag D_partners_in (hmR hr) jl (qa (pv 0) (qa (pv 1) qd))))
 (qb (qL (PW.pt (qaD (qZ (qK (qr D_are_unlike_places (hmR hr) qz (qa (pv 0) (qa (pv 2) qd))))) (qau (qv qdE (qm (jX (K:=K) rfl) rfl T.b_len boot_len (qa (pv 2) qd)) qg (qA _))))) (qf (qp jp)) qq)
 (qf (qp (qr D_goes_by_turns (hmR hr) qz (qa (pv 0) (qa (pv 3) (qa (pv 2) qd)))))))),?_⟩
  ext
  refine ⟨p,x,ss,ns,tps,v,rfl,hW,hA,hv,hE,fun qs hq d H1 s1 hd0 hd=>?_⟩
  ext
  by_cases hlst:∃ a xs,u=.ref a∧H a=some (.lst xs)
  ·obtain ⟨a,xs,rfl,ha⟩:=hlst
   obtain ⟨hxs,hxl⟩:(∀ y∈xs,Th p H 2 y)∧xs.length≤1000:=by
    cases hu9 with
    | lst e ne h l=>rw [ha] at e;cases e;exact ⟨h,l⟩
    | tup e ne h l=>rw [ha] at e;cases e
    | dct e ne=>rw [ha] at e;cases e
    | flat f l=>cases f
   have hfin:=q qs hq
   rw [jM ha] at hfin
   unfold rwL at hfin
   refine ⟨p,x,ss,ns,.ref a,rfl,hW.same s1,hu9.same s1,.inl ⟨a,xs,rfl,s1 _ _ ha,fun y hy=>(hxs y hy).same s1,hxl,fun H2 s2=>?_⟩⟩
   have s02:=s1.trans s2
   ext
   cases hun:unl ss [] xs with
   | false =>
    rw [hun] at hfin
    refine j9 (j9 ?_)
    ext
    exact hfin H2 s02
   | true =>
    rw [hun] at hfin
    have ha2:=s02 _ _ ha
    refine yq ?_
    ext
    refine .inl ⟨_,.inl (SqL.of ha2),?_⟩
    ext
    by_cases h2:2≤xs.length
    ·refine qI (fun h=>absurd (yk h) (by omega)) fun _=>?_
     ext
     obtain ⟨e1,e2,e3⟩:=qak hun
     rw [decide_eq_true h2,Bool.true_and,Bool.true_and] at hfin
     rw [e1] at ha2
     refine ⟨x,d,a,ss,ns,tps,qs,xs.map qH,rfl,hW.same s02,hA,s2 _ _ hd,ha2,e2,e3,by rw [ya];exact hxl,fun H3 s3=>hfin H3 (s02.trans s3)⟩
    ·refine qI (fun _=>?_) fun h=>absurd (decide_eq_true (show (xs.length:Int) < 2 by omega)) h
     ext
     have:=hfin H2 s02
     rwa [yl h2] at this
  ·have hno:∀ a xs,u=.ref a→H a≠some (.lst xs):=fun a xs e1 e2=>hlst ⟨a,xs,e1,e2⟩
   have hfin:=q qs hq
   rw [qdw hno] at hfin
   refine ⟨p,x,ss,ns,u,rfl,hW.same s1,hu9.same s1,.inr ⟨?_,fun H2 s2=>?_⟩⟩
   ·exact no_later hu9 hno s1
   ·refine ⟨false,rfl,j9 (j9 ?_)⟩
    ext
    exact hfin H2 (s1.trans s2)
theorem ok_ct (F:Fun K "can_turn" "can_turn" zg f fd) (T:Txt K mg cc cw) (D_partners_in:DefOk P w K mg base (CX1 P w) 9 "partners_in" ["web", "pairs"] (qgr cc cw)) (D_is_row:DefOk P w K mg base (CX1 P w) 10 "is_row" ["web", "pairs", "thing"] (qhl cc cw)):FnOk P w K mg base (CX1 P w) 11 f fd ["web", "pairs", "thing"] (qhm cc cw):=by
 refine F.ok1 sc_can_turn (fun vs H Q E h=>?_) fun cdv A outer s H vs Q E hr h=>?_
 ·obtain ⟨p,x,ss,ns,tps,v,u,rfl,_⟩:=h;rfl
 ·obtain ⟨p,x,ss,ns,tps,v,u,rfl,hW,hA,hv,hu9,hE,q⟩:=h
  have hu:=qah hr
  refine ⟨_,(qb (qL (qZ (qK (qag D_is_row (hmR hr) jl (qa (pv 0) (qa (pv 1) (qa (pv 2) qd)))))) (qf (qp jp)) qq)
 (qb (qu (i:=3) sc_can_turn.nd rfl (Or.inl rfl) (qag D_partners_in (hmR hr) jl (qa (pv 0) (qa (pv 1) qd))))
 (qb (qu (i:=4) sc_can_turn.nd rfl (Or.inl rfl) (zt (qe6 hu) (pv 3) (qx (qy (K:=K) rfl hu) (pv 2) qg (fun _ _=>rfl)) ⟨rfl,rfl,rfl,rfl⟩))
 (qb (qu (i:=5) sc_can_turn.nd rfl (Or.inl rfl) (zt (qe6 hu) (pv 3) (qx (qy (K:=K) rfl hu) (pv 2) (qbw qaw qg) (fun _ _=>rfl)) ⟨rfl,rfl,rfl,rfl⟩))
 (qf (qp (qa1 (qV (qa6 (K:=K) rfl hu) (pv 4) (jJ (qa qdN (qa (qx (qy (K:=K) rfl hu) (pv 2) qg (fun _ _=>rfl)) qd))) (by with_unfolding_all rfl)) (qa0 (qV (qa6 (K:=K) rfl hu) (pv 5) (jJ (qa qdN (qa (qx (qy (K:=K) rfl hu) (pv 2) (qbw qaw qg) (fun _ _=>rfl)) qd))) (by with_unfolding_all rfl)))))))))),?_⟩
  ext
  refine ⟨p,x,ss,ns,tps,v,u,rfl,hW,hA,hv,hu9,hE,fun qs hq H1 s1=>?_⟩
  have hfin:=q qs hq
  cases hr9:onL H (rwL ss tps qs) u with
  | false =>
   have e:onL H (ctL ss tps qs) u=false:=by
    unfold onL at hr9 ⊢
    split at hr9
    ·split at hr9
     ·unfold ctL;rw [hr9];rfl
     ·rfl
    ·rfl
   rw [e] at hfin
   refine ⟨_,rfl,j9 ?_⟩
   ext
   exact hfin H1 s1
  | true =>
   obtain ⟨a,xs,rfl,ha,hx⟩:∃ a xs,u=.ref a∧H a=some (.lst xs)∧rwL ss tps qs xs=true:=by
    unfold onL at hr9
    split at hr9
    ·split at hr9
     ·rename_i a _ xs e;exact ⟨a,xs,rfl,e,hr9⟩
     ·cases hr9
    ·cases hr9
   rw [jM ha] at hfin
   unfold ctL at hfin
   rw [hx,Bool.true_and] at hfin
   unfold rwL at hx
   obtain ⟨hx,_⟩:=(Bool.and_eq_true _ _).mp hx
   obtain ⟨hun,h2⟩:=(Bool.and_eq_true _ _).mp hx
   have h2:2≤xs.length:=yk h2
   obtain ⟨e1,e2,e3⟩:=qak hun
   obtain ⟨rs,hrs⟩:∃ rs,rs=xs.map qH:=⟨_,rfl⟩
   rw [← hrs] at e1 e2 e3 hfin
   rw [e1,ya] at h2
   rw [e1] at ha
   refine ⟨_,rfl,qI (fun h=>by cases h) fun _=>?_⟩
   ext
   refine ⟨p,x,ss,ns,tps,v,rfl,hW.same s1,hA,hv.same s1,fun h=>?_,fun qs2 hq2 d H2 s2 hd0 hd=>?_⟩
   ·rw [qdu hv s1,hq.tru] at h;cases h
   ·have eq:=hq2.one (hq.same hv s1)
    subst eq
    obtain ⟨n0,g0⟩:∃ n0,rs[0]?=some n0:=⟨_,yb (by omega)⟩
    obtain ⟨n1,g1⟩:∃ n1,rs[1]?=some n1:=⟨_,yb (by omega)⟩
    obtain ⟨m0,k0⟩:∃ m0,rs[rs.length - 1]?=some m0:=⟨_,yb (by omega)⟩
    obtain ⟨m1,k1⟩:∃ m1,rs[rs.length - 2]?=some m1:=⟨_,yb (by omega)⟩
    have hfr:frB qs2 rs=(okE qs2 n0 n1&&okE qs2 m0 m1):=by
     unfold frB
     rw [List.getD_eq_getElem?_getD,List.getD_eq_getElem?_getD,List.getD_eq_getElem?_getD,List.getD_eq_getElem?_getD,g0,g1,k0,k1]
     rfl
    rw [hfr] at hfin
    have s02:=s1.trans s2
    have ha2:=s02 _ _ ha
    have at_:∀ {j:Nat} {n:Str},rs[j]?=some n→(rs.map V.str)[j]?=some (.str n):=fun e=>by rw [yd,e];rfl
    have back:∀ {j:Nat} {n:Str},1≤j→j≤rs.length→rs[rs.length - j]?=some n→atI (rs.map V.str) (-(j:Int))=some (.str n):=fun l1 l2 e=>qbd l1 (by rw [ya];exact l2) (by rw [ya];exact at_ e)
    ext
    refine qa2 ?_
    ext
    refine ⟨d,rfl,.inl ⟨_,.inl hd⟩,?_⟩
    ext
    refine .inl (zk ha2 (v:=.str n0) (qt (j:=0) (at_ g0)) ?_)
    refine ⟨_,DGet.k (k:=Sum.inr n0) hd,?_⟩
    rw [jz]
    ext
    refine qa2 ?_
    ext
    refine ⟨d,rfl,.inl ⟨_,.inl hd⟩,?_⟩
    ext
    refine ⟨1,rfl,?_⟩
    refine .inl (zk ha2 (v:=.str m0) (back (j:=1) (by decide) (by omega) k0) ?_)
    refine ⟨_,DGet.k (k:=Sum.inr m0) hd,?_⟩
    rw [jz]
    ext
    refine .inl (zk ha2 (v:=.str n1) (qt (j:=1) (at_ g1)) ?_)
    ext
    refine ⟨by show 2≤sizeLine;decide,fun t ht=>qge qc ?_⟩
    have s3:=qX s02 (o:=.tup [.non,.str n1]) ht
    generalize upd H2 t (.tup [.non,.str n1])=H3 at s3
    refine ⟨_,rfl,?_⟩
    cases ho:okE qs2 n0 n1 with
    | false =>
     rw [ho,Bool.false_and] at hfin
     refine yq ?_
     exact hfin H3 s3
    | true =>
     rw [ho,Bool.true_and] at hfin
     refine j9 ?_
     ext
     refine ⟨2,rfl,?_⟩
     refine .inl (zk (s3 _ _ ha) (v:=.str m1) (back (j:=2) (by decide) (by omega) k1) ?_)
     ext
     refine ⟨by show 2≤sizeLine;decide,fun t2 ht2=>qge qc ?_⟩
     exact hfin _ (qX s3 ht2)
abbrev zh:Stmt:=top 42
theorem sc_l_is_row:FnScope ["_law_names_here", "_law_ties", "_law_partners_here", "_law_thing", "_law_seen", "_law_name", "_law_k", "_law_middle"] ["_law_names_here", "_law_ties", "_law_partners_here", "_law_thing"] (qe zh):=fS
theorem qdx {qs:List (Str×Str)} (h:(qi qs).Nodup) {a b:Str}:pt qs a=some b↔pt qs b=some a:=by
 have one:∀ {a b:Str},pt qs a=some b→pt qs b=some a:=fun {a b} e=>by
  rcases qdv e with z | z
  ·exact (qgd h _ z).2
  ·exact (qgd h _ z).1
 exact ⟨one,one⟩
def goB (tps qs:List (Str×Str)) (rs:List Str) (j:Nat):Prop:=∀ s t,rs[j]?=some s→rs[j + 1]?=some t→tiB tps (s,t)=true∧∀ r,1≤j→rs[j - 1]?=some r→decide (pt qs s=some r)≠decide (pt qs s=some t)
theorem qdy {rs:List Str} {j:Nat} {s t:Str} (e1:rs[j]?=some s) (e2:rs[j + 1]?=some t):(stp rs)[j]?=some (s,t):=stp_at.mpr ⟨e1,e2⟩
theorem altB_iff {bs:List Bool}:qgt bs=true↔∀ (j:Nat) x y,bs[j]?=some x→bs[j + 1]?=some y→x≠y:=by
 unfold qgt
 rw [List.all_eq_true]
 constructor
 ·intro h j x y h1 h2
  have:(x,y)∈bs.zip bs.tail:=ye (i:=j) (List.getElem?_zip_eq_some.mpr ⟨h1,by rw [List.getElem?_tail];exact h2⟩)
  have:=h _ this
  simpa using this
 ·intro h q hq
  obtain ⟨j,hj⟩:=yf hq
  obtain ⟨h1,h2⟩:=List.getElem?_zip_eq_some.mp hj
  rw [List.getElem?_tail] at h2
  have:=h j q.1 q.2 h1 h2
  simpa using this
theorem qbs {tps qs:List (Str×Str)} {rs:List Str} (hn:(qi qs).Nodup):gbt tps qs rs=true↔∀ j,goB tps qs rs j:=by
 unfold gbt
 rw [Bool.and_eq_true,List.all_eq_true,altB_iff]
 have bat:∀ {j:Nat} {x:Bool},((stp rs).map (prB qs))[j]?=some x↔∃ s t,rs[j]?=some s∧rs[j + 1]?=some t∧x=decide (pt qs s=some t):=fun {j x}=>by
  rw [yd]
  constructor
  ·intro h
   obtain ⟨ab,h1,h2⟩:=yn.mp h
   obtain ⟨e1,e2⟩:=stp_at.mp h1
   exact ⟨ab.1,ab.2,e1,e2,h2.symm⟩
  ·rintro ⟨s,t,e1,e2,rfl⟩
   rw [qdy e1 e2]
   rfl
 constructor
 ·rintro ⟨h1,h2⟩ j s t e1 e2
  refine ⟨h1 _ (ye (i:=j) (qdy e1 e2)),fun r hj er=>?_⟩
  have hj':j - 1 + 1=j:=by omega
  have:=h2 (j - 1) _ _ (bat.mpr ⟨r,s,er,by rw [hj'];exact e1,rfl⟩) (bat.mpr ⟨s,t,by rw [hj'];exact e1,by rw [hj'];exact e2,rfl⟩)
  rwa [show decide (pt qs r=some s)=decide (pt qs s=some r) from decide_eq_decide.mpr (qdx hn)] at this
 ·intro h
  refine ⟨fun ab hab=>?_,fun j x y hx hy=>?_⟩
  ·obtain ⟨j,hj⟩:=yf hab
   obtain ⟨e1,e2⟩:=stp_at.mp hj
   exact (h j ab.1 ab.2 e1 e2).1
  ·obtain ⟨r,s,e1,e2,rfl⟩:=bat.mp hx
   obtain ⟨s',t,e3,e4,rfl⟩:=bat.mp hy
   rw [e2] at e3
   cases e3
   have:=(h (j + 1) s t e2 e4).2 r (by omega) (by rw [Nat.add_sub_cancel];exact e1)
   rwa [show decide (pt qs r=some s)=decide (pt qs s=some r) from decide_eq_decide.mpr (qdx hn)]
def qgf:Sp:=fun vs H Q _=>∃ (p n l d:Addr) (ss:List Str) (ts:List Addr) (tps qs:List (Str×Str)) (v:V),vs=[.ref n,.ref l,.ref d,v]∧H n=some (.lst (ss.map V.str))∧NOk ss∧PL H l ts tps∧H d=some (.dK (prK qs))∧(qi qs).Nodup∧Th p H 3 v∧∀ H',L2.Same H H'→Q (.bl (onL H (rwL ss tps qs) v)) H'
theorem qbY {ss:List Str} {seen:List Str} {x:V} {r:List V} (h:∀ z,x=.str z→z∈ss→z∈seen):unl ss seen (x::r)=false:=by
 show (if qF ss x=true then (if qH x∈seen then false else unl ss (seen++[qH x]) r) else false)=false
 split
 ·rename_i hp
  obtain ⟨e,m,_⟩:=qaY hp
  rw [if_pos (h _ e m)]
 ·rfl
theorem qdz {ss:List Str} (hO:NOk ss) {seen:List Str} {z:Str} {r:List V} (h1:z∈ss) (h2:z∉seen):unl ss seen (.str z::r)=unl ss (seen++[z]) r:=by
 show (if qF ss (.str z)=true then (if z∈seen then false else unl ss (seen++[z]) r) else false)=_
 rw [if_pos (js h1 (hO.nm _ h1)),if_neg h2]
theorem ok_lir (F:Fun K "_law_is_row" "_law_is_row" zh f fd) (T:Txt K mg cc cw) (D_l_tied:DefOk P w K mg base CX0 1 "_law_tied" ["_law_ties", "_law_one", "_law_other"] qfA):FnOk P w K mg base CX0 2 f fd ["_law_names_here", "_law_ties", "_law_partners_here", "_law_thing"] qgf:=by
 refine F.ok sc_l_is_row (fun vs H Q E h=>?_) fun cdv A outer s H vs Q E hr h=>?_
 ·obtain ⟨p,n,l,d,ss,ts,tps,qs,v,rfl,_⟩:=h;rfl
 ·obtain ⟨p,n,l,d,ss,ts,tps,qs,v,rfl,hn,hO,hP,hd,hnd,hv,q⟩:=h
  have hu:=qah hr
  refine ⟨_,(qb (qL (PW.pt (qaD (qZ (qK (qm (qax (K:=K) rfl) rfl T.b_isinstance boot_isinstance (qa (pv 3) (qa (j6 (v:=.ty "list") rfl T.b_list boot_list rfl) qd))))) (qau (qv qdE (qm (jX (K:=K) rfl) rfl T.b_len boot_len (qa (pv 3) qd)) qg (qA _))))) (qf (qp jp)) qq)
 (qb (qu (i:=4) sc_l_is_row.nd rfl (Or.inl rfl) (jv qd))
 (qb (jm PassesOwn.never rfl (jK (K:=K) rfl (pv 3)) (qw (i:=5) sc_l_is_row.nd rfl (Or.inl rfl))
 (qb (qL (PW.pt (qaD (qZ (qK (qm (qax (K:=K) rfl) rfl T.b_isinstance boot_isinstance (qa (pv 5) (qa (j6 (v:=.ty "str") rfl T.b_str boot_str rfl) qd))))) (qaD (qv (jT (K:=K) rfl hu) (pv 5) (pv 0) (by with_unfolding_all rfl)) (qau (qv (qa6 (K:=K) rfl hu) (pv 5) (pv 4) (by with_unfolding_all rfl)))))) (qf (qp jp)) qq)
 (qf (qU (qdI (K:=K) rfl PySem.F.plainAttrs_list PySem.F.slot_list_append PySem.F.type_list_append jf (pv 4) (qa (pv 5) qd))))))
 (qb (jm PassesOwn.never rfl (jw rfl T.b_range (qa (qB qbx (qm (jX (K:=K) rfl) rfl T.b_len boot_len (qa (pv 3) qd)) qg) qd)) (qw (i:=6) sc_l_is_row.nd rfl (Or.inl rfl))
 (qb (qL (qZ (qK (qr D_l_tied (hmR hr) qz (qa (pv 1) (qa (qx (qy (K:=K) rfl hu) (pv 3) (pv 6) (fun _ _=>rfl)) (qa (qx (qy (K:=K) rfl hu) (pv 3) (qB (jY (K:=K) rfl) (pv 6) qg) (fun _ _=>rfl)) qd)))))) (qf (qp jp)) qq)
 (qb (qu (i:=7) sc_l_is_row.nd rfl (Or.inl rfl) (zt (qe6 hu) (pv 2) (qx (qy (K:=K) rfl hu) (pv 3) (pv 6) (fun _ _=>rfl)) ⟨rfl,rfl,rfl,rfl⟩))
 (qf (qL (PW.pt (qav (qv qcD (pv 6) qg (qA _)) (qab (qv (qaz (K:=K) rfl hu) (qV (qaz (K:=K) rfl hu) (pv 7) (qx (qy (K:=K) rfl hu) (pv 3) (qB qbx (pv 6) qg) (fun _ _=>rfl)) (qA _)) (qV (qaz (K:=K) rfl hu) (pv 7) (qx (qy (K:=K) rfl hu) (pv 3) (qB (jY (K:=K) rfl) (pv 6) qg) (fun _ _=>rfl)) (qA _)) (qA _))))) (qf (qp jp)) qq)))))
 (qf (qp jp)))))),?_⟩
  ext
  by_cases hlist:∃ a xs,v=.ref a∧H a=some (.lst xs)
  ·obtain ⟨a,xs,rfl,ha⟩:=hlist
   obtain ⟨hap,hxs,hxl⟩:a≠p∧(∀ y∈xs,Th p H 2 y)∧xs.length≤1000:=by
    cases hv with
    | lst e ne h l=>rw [ha] at e;cases e;exact ⟨ne,h,l⟩
    | tup e ne h l=>rw [ha] at e;cases e
    | dct e ne=>rw [ha] at e;cases e
    | flat f l=>cases f
   rw [jM ha] at q
   unfold rwL at q
   refine qaL (.inl (.lst ha)) rfl (j7 K "list" (by simp) "list" (by simp)) ?_
   ext
   refine yq ?_
   ext
   refine .inl ⟨_,.inl (SqL.of ha),?_⟩
   ext
   by_cases h2:2≤xs.length
   ·refine qI (fun h=>absurd (yk h) (by omega)) fun _=>?_
    rw [decide_eq_true h2,Bool.and_true] at q
    ext
    refine ⟨by show 0≤sizeLine;decide,fun sn hsn=>?_⟩
    have s1:=qX (Sr H) (o:=.lst []) hsn
    have es:upd H sn (.lst []) sn=some (.lst (([]:List Str).map V.str)):=qc
    generalize upd H sn (.lst [])=H1 at s1 es
    ext
    refine .inl ⟨⟨_,.of (s1 _ _ ha)⟩,jq (xs:=xs) (fun i σ J=>L2.Same H J∧∃ y5 seen,σ=[some (.ref n),some (.ref l),some (.ref d),some (.ref a),some (.ref sn),y5,none,none]∧J sn=some (.lst (seen.map V.str))∧seen.length=i∧xs.take i=seen.map V.str∧unl ss [] xs=unl ss seen (xs.drop i)) ⟨s1,_,[],rfl,es,rfl,rfl,rfl⟩ (fun i σ J _ hp=>.of (hp.1 _ _ ha)) (fun i y σ J hy hp=>?_) fun σ J hp=>?_⟩
    ·obtain ⟨sJ,y5,seen,rfl,esJ,hsl,htk,hun⟩:=hp
     have hil:i < xs.length:=(yc.mp hy).1
     have hdr:xs.drop i=y::xs.drop (i + 1):=by
      rw [List.drop_eq_getElem_cons hil]
      have:=(yc.mp hy).2
      rw [this]
     rw [hdr] at hun
     have stop:(∀ z,y=.str z→z∈ss→z∈seen)→Q (.bl false) J:=fun e=>by
      have:=q J sJ
      rwa [hun,qbY e,Bool.false_and] at this
     obtain ⟨t,ht,tyJ,f1,f2,_⟩:=((hxs y (ye hy)).same sJ).ty (K:=K)
     ext
     refine qaL (.inl tyJ) rfl (j7 K t ht "str" (by simp)) ?_
     cases his:qcL t "str" with
     | false =>
      ext
      refine j9 ?_
      ext
      refine stop fun z e hz=>?_
      subst e
      have:=f2 his
      rw [show qat (.str z)=j3 z from rfl,hO.nm z hz] at this
      cases this
     | true =>
      obtain ⟨z,rfl,hzl2⟩:=f1 his
      ext
      refine yq ?_
      ext
      refine qcV (sJ _ _ hn) ?_
      by_cases hzs':z∈ss
      ·rw [decide_eq_true hzs']
       ext
       refine yq ?_
       ext
       refine str_in esJ ?_
       by_cases hzm:z∈seen
       ·rw [decide_eq_true hzm]
        ext
        refine j9 ?_
        ext
        exact stop fun z' e _=>by cases e;exact hzm
       ·rw [yl hzm]
        ext
        refine yq ?_
        ext
        refine ⟨.inl ⟨rfl,_,.of esJ⟩,?_⟩
        ext
        refine ⟨sn,_,_,rfl,rfl,esJ,by rw [ya,sizeLine_eq];omega,?_⟩
        refine ⟨qbG sJ hsn,_,seen++[z],rfl,by rw [qc,List.map_append];rfl,by rw [List.length_append,hsl];rfl,by rw [List.take_add_one,hy,htk,List.map_append];rfl,?_⟩
        rw [hun,qdz hO hzs' hzm]
      ·rw [yl hzs']
       ext
       refine j9 ?_
       ext
       exact stop fun z' e hz=>by cases e;exact absurd hz hzs'
    ·obtain ⟨sJ,y5,seen,rfl,esJ,hsl,htk,hun⟩:=hp
     rw [List.drop_length] at hun
     rw [List.take_length] at htk
     have hun':unl ss [] xs=true:=hun
     rw [hun',Bool.true_and] at q
     obtain ⟨e1,e2,e3⟩:=qak hun'
     obtain ⟨rs,hrs⟩:∃ rs,rs=xs.map qH:=⟨_,rfl⟩
     rw [← hrs] at e1 e2 e3 q
     rw [e1] at ha
     rw [e1,ya] at h2 hxl
     have haJ:=sJ _ _ ha
     have at_:∀ {j:Nat} {n:Str},rs[j]?=some n→(rs.map V.str)[j]?=some (.str n):=fun e=>by rw [yd,e];rfl
     ext
     refine .inl ⟨_,.inl (SqL.of haJ),?_⟩
     ext
     have ej:((rs.map V.str).length:Int) - 1=((rs.length - 1:Nat):Int):=by rw [ya];omega
     rw [ej]
     refine ⟨_,rfl,by omega,by omega,?_⟩
     rw [Int.toNat_natCast]
     refine jW (lo:=0) (n:=rs.length - 1) (fun i σ G=>L2.Same J G∧(∀ j < i,goB tps qs rs j)∧∃ y5 y6 y7,σ=[some (.ref n),some (.ref l),some (.ref d),some (.ref a),some (.ref sn),y5,y6,y7]) ⟨L2.Same.refl J,(fun j h=>by omega),_,_,_,rfl⟩ (fun i σ G hi hp=>?_) fun σ G hp=>?_
     ·obtain ⟨sG,hgo,y5',y6,y7,rfl⟩:=hp
      have s0G:=sJ.trans sG
      have haG:=s0G _ _ ha
      have hdG:=s0G _ _ hd
      obtain ⟨s',hs'⟩:∃ s',rs[i]?=some s':=⟨_,yb (by omega)⟩
      obtain ⟨t',ht'⟩:∃ t',rs[i + 1]?=some t':=⟨_,yb (by omega)⟩
      have stop:∀ G2,L2.Same H G2→¬ goB tps qs rs i→Q (.bl false) G2:=fun G2 s2 h=>by
       have:=q G2 s2
       rwa [show gbt tps qs rs=false from Bool.eq_false_iff.mpr fun e=>h ((qbs hnd).mp e i)] at this
      have e0:((0:Int) + (i:Int))=(i:Int):=by omega
      rw [e0]
      ext
      refine .inl (zk haG (v:=.str s') (qt (at_ hs')) ?_)
      ext
      refine .inl (zk haG (v:=.str t') (qt (j:=i + 1) (at_ ht')) ?_)
      ext
      refine ⟨l,ts,tps,s',t',rfl,hP.same s0G,fun G2 s2=>?_⟩
      have s02:=s0G.trans s2
      have ha2:=s02 _ _ ha
      have hd2:=s02 _ _ hd
      refine ⟨_,rfl,?_⟩
      by_cases hti:(s',t')∈tps∨(t',s')∈tps
      ·rw [decide_eq_true hti]
       refine yq ?_
       ext
       refine qa2 ?_
       ext
       refine ⟨d,rfl,.inl ⟨_,.inl hd2⟩,?_⟩
       ext
       refine .inl (zk ha2 (v:=.str s') (qt (at_ hs')) ?_)
       refine ⟨_,DGet.k (k:=Sum.inr s') hd2,?_⟩
       rw [jz]
       ext
       have tiT:tiB tps (s',t')=true:=by unfold tiB;exact decide_eq_true hti
       have sJ2:=sG.trans s2
       by_cases hi0:i=0
       ·subst hi0
        refine qI (fun h=>absurd (yk h) (by decide)) fun _=>?_
        refine yq ?_
        refine ⟨sJ2,fun j hj a b e1 e2=>?_,_,_,_,rfl⟩
        have:j=0:=by omega
        subst this
        rw [hs'] at e1
        rw [ht'] at e2
        cases e1
        cases e2
        exact ⟨tiT,fun r h=>absurd h (by decide)⟩
       ·refine qI (fun _=>?_) fun h=>absurd (decide_eq_true (by omega)) h
        obtain ⟨r',hr'⟩:∃ r',rs[i - 1]?=some r':=⟨_,yb (by omega)⟩
        ext
        rw [show (i:Int) - 1=((i - 1:Nat):Int) by omega]
        refine .inl (zk ha2 (v:=.str r') (qt (at_ hr')) ?_)
        refine qek ?_
        ext
        refine .inl (zk ha2 (v:=.str t') (qt (j:=i + 1) (at_ ht')) ?_)
        refine qek ?_
        refine .inl (.inl (.inl ⟨rfl,rfl,?_⟩))
        have ev:eqV (.bl (decide (pt qs s'=some r'))) (.bl (decide (pt qs s'=some t')))=decide (decide (pt qs s'=some r')=decide (pt qs s'=some t')):=by
         show (decide (pt qs s'=some r')==decide (pt qs s'=some t'))=_
         cases decide (pt qs s'=some r')<;>cases decide (pt qs s'=some t')<;>rfl
        refine ⟨decide (decide (pt qs s'=some r')=decide (pt qs s'=some t')),by rw [← ev];rfl,?_⟩
        by_cases hbb:decide (pt qs s'=some r')=decide (pt qs s'=some t')
        ·rw [decide_eq_true hbb]
         refine j9 ?_
         ext
         exact stop G2 s02 fun h=>(h s' t' hs' ht').2 r' (by omega) hr' hbb
        ·rw [yl hbb]
         refine yq ?_
         refine ⟨sJ2,fun j hj=>?_,_,_,_,rfl⟩
         rcases Nat.lt_succ_iff_lt_or_eq.mp hj with h | h
         ·exact hgo j h
         ·subst h
          intro a b e1 e2
          rw [hs'] at e1
          rw [ht'] at e2
          cases e1
          cases e2
          refine ⟨tiT,fun r _ er=>?_⟩
          rw [hr'] at er
          cases er
          exact hbb
      ·rw [yl hti]
       refine j9 ?_
       ext
       refine stop G2 s02 fun h=>?_
       have:=(h s' t' hs' ht').1
       unfold tiB at this
       exact hti (yk this)
     ·obtain ⟨sG,hgo,y5',y6,y7,rfl⟩:=hp
      ext
      have:=q G (sJ.trans sG)
      rwa [(qbs hnd).mpr fun j s' t' e1 e2=>hgo j (by have:=(yc.mp e2).1;omega) s' t' e1 e2] at this
   ·refine qI (fun _=>?_) fun h=>absurd (decide_eq_true (show (xs.length:Int) < 2 by omega)) h
    ext
    have:=q H (Sr H)
    rwa [yl h2,Bool.and_false] at this
  ·have hno:∀ a xs,v=.ref a→H a≠some (.lst xs):=fun a xs e1 e2=>hlist ⟨a,xs,e1,e2⟩
   rw [qdw hno] at q
   obtain ⟨t,ht,he,ty⟩:∃ t:String,t∈["NoneType", "bool", "int", "str", "list", "tuple", "dict"]∧qcL t "list"=false∧TyOf K H v (.type t):=by
    cases hv with
    | flat f l =>
     cases v with
     | non=>exact ⟨_,by simp,rfl,.non⟩
     | bl b=>exact ⟨"bool",by simp,rfl,.bl b⟩
     | int i=>exact ⟨"int",by simp,rfl,.int i⟩
     | str z=>exact ⟨"str",by simp,rfl,.str z⟩
     | _=>cases f
    | lst e ne h l=>exact absurd e (hno _ _ rfl)
    | tup e ne h l=>exact ⟨"tuple",by simp,rfl,.tup e⟩
    | dct e ne=>exact ⟨"dict",by simp,rfl,.dK e⟩
   refine qaL (.inl ty) rfl (j7 K t ht "list" (by simp)) ?_
   rw [he]
   refine ⟨_,rfl,j9 (j9 ?_)⟩
   ext
   exact q H (Sr H)
abbrev jN:Stmt:=top 43
theorem sc_l_is_free:FnScope ["_law_partners_here", "_law_row", "_law_name", "_law_beside"] ["_law_partners_here", "_law_row"] (qe jN):=fS
abbrev qar:Stmt:=top 44
theorem sc_l_walk:FnScope ["_law_box_here", "_law_names_here", "_law_ties", "_law_partners_here", "_law_strict", "_law_row", "_law_wish", "_law_k", "_law_some", "_law_name"] ["_law_box_here", "_law_names_here", "_law_ties", "_law_partners_here", "_law_strict"] (qe qar):=fS
def qgg:Sp:=fun vs H Q _=>∃ (d a:Addr) (qs:List (Str×Str)) (rs:List Str),vs=[.ref d,.ref a]∧H d=some (.dK (prK qs))∧H a=some (.lst (rs.map V.str))∧2≤rs.length∧∀ H',L2.Same H H'→Q (.bl (frB qs rs)) H'
theorem ok_lfr (F:Fun K "_law_is_free" "_law_is_free" jN f fd) (T:Txt K mg cc cw):FnOk P w K mg base CX0 1 f fd ["_law_partners_here", "_law_row"] qgg:=by
 refine F.ok sc_l_is_free (fun vs H Q E h=>?_) fun cdv A outer s H vs Q E hr h=>?_
 ·obtain ⟨d,a,qs,rs,rfl,_⟩:=h;rfl
 ·obtain ⟨d,a,qs,rs,rfl,hd,ha,h2,q⟩:=h
  have hu:=qah hr
  refine ⟨_,(qb (jm PassesOwn.never rfl (qe7 (K:=K) rfl (jv (qa (jJ (qa (qx (qy (K:=K) rfl hu) (pv 1) qg (fun _ _=>rfl)) (qa (qx (qy (K:=K) rfl hu) (pv 1) qg (fun _ _=>rfl)) qd))) (qa (jJ (qa (qx (qy (K:=K) rfl hu) (pv 1) (qbw qaw qg) (fun _ _=>rfl)) (qa (qx (qy (K:=K) rfl hu) (pv 1) (qbw qaw qg) (fun _ _=>rfl)) qd))) qd)))) (qb2 rfl (jQ (qw (i:=2) sc_l_is_free.nd rfl (Or.inl rfl)) (jQ (qw (i:=3) sc_l_is_free.nd rfl (Or.inl rfl)) qbe)))
 (qf (qL (PW.pt (qav (qv (qa6 (K:=K) rfl hu) (pv 2) (pv 0) (by with_unfolding_all rfl)) (qab (qv (qaK (K:=K) rfl hu) (qx (qy (K:=K) rfl hu) (pv 0) (pv 2) (fun _ _=>rfl)) (pv 3) (qA _))))) (qf (qp jp)) qq)))
 (qf (qp jp))),?_⟩
  obtain ⟨n0,g0⟩:∃ n0,rs[0]?=some n0:=⟨_,yb (by omega)⟩
  obtain ⟨n1,g1⟩:∃ n1,rs[1]?=some n1:=⟨_,yb (by omega)⟩
  obtain ⟨m0,k0⟩:∃ m0,rs[rs.length - 1]?=some m0:=⟨_,yb (by omega)⟩
  obtain ⟨m1,k1⟩:∃ m1,rs[rs.length - 2]?=some m1:=⟨_,yb (by omega)⟩
  have hfr:frB qs rs=(okE qs n0 n1&&okE qs m0 m1):=by
   unfold frB
   rw [List.getD_eq_getElem?_getD,List.getD_eq_getElem?_getD,List.getD_eq_getElem?_getD,List.getD_eq_getElem?_getD,g0,g1,k0,k1]
   rfl
  rw [hfr] at q
  have at_:∀ {j:Nat} {n:Str},rs[j]?=some n→(rs.map V.str)[j]?=some (.str n):=fun e=>by rw [yd,e];rfl
  have back:∀ {j:Nat} {n:Str},1≤j→j≤rs.length→rs[rs.length - j]?=some n→atI (rs.map V.str) (-(j:Int))=some (.str n):=fun l1 l2 e=>qbd l1 (by rw [ya];exact l2) (by rw [ya];exact at_ e)
  ext
  refine qf3 ?_
  ext
  refine .inl (zk ha (v:=.str n0) (qt (j:=0) (at_ g0)) ?_)
  ext
  refine .inl (zk ha (v:=.str n1) (qt (j:=1) (at_ g1)) ?_)
  ext
  refine ⟨by show 2≤sizeLine;decide,fun t1 ht1=>?_⟩
  have s1:=qX (Sr H) (o:=.tup [.str n0,.str n1]) ht1
  have e1:upd H t1 (.tup [.str n0,.str n1]) t1=some (.tup [.str n0,.str n1]):=qc
  generalize upd H t1 (.tup [.str n0,.str n1])=H1 at s1 e1
  have ha1:=s1 _ _ ha
  ext
  refine ⟨1,rfl,?_⟩
  refine .inl (zk ha1 (v:=.str m0) (back (j:=1) (by decide) (by omega) k0) ?_)
  ext
  refine ⟨2,rfl,?_⟩
  refine .inl (zk ha1 (v:=.str m1) (back (j:=2) (by decide) (by omega) k1) ?_)
  ext
  refine ⟨by show 2≤sizeLine;decide,fun t2 ht2=>?_⟩
  have s2:=qX s1 (o:=.tup [.str m0,.str m1]) ht2
  have e12:=qX (Sr H1) (o:=.tup [.str m0,.str m1]) ht2 _ _ e1
  have e2:upd H1 t2 (.tup [.str m0,.str m1]) t2=some (.tup [.str m0,.str m1]):=qc
  generalize upd H1 t2 (.tup [.str m0,.str m1])=H2 at s2 e12 e2
  ext
  refine ⟨by show 2≤sizeLine;decide,fun g hg=>?_⟩
  have s3:=qX s2 (o:=.lst [.ref t1,.ref t2]) hg
  have s23:=qX (Sr H2) (o:=.lst [.ref t1,.ref t2]) hg
  have eg:upd H2 g (.lst [.ref t1,.ref t2]) g=some (.lst [.ref t1,.ref t2]):=qc
  have e13:=s23 _ _ e12
  have e23:=s23 _ _ e2
  generalize upd H2 g (.lst [.ref t1,.ref t2])=H3 at s3 eg e13 e23
  obtain ⟨us,hus⟩:∃ us,us=[t1,t2]:=⟨_,rfl⟩
  obtain ⟨ws,hws⟩:∃ ws,ws=[(n0,n1),(m0,m1)]:=⟨_,rfl⟩
  have hAl:All2 (fun t ab=>H3 t=some (.tup [.str ab.1,.str ab.2])) us ws:=by
   rw [hus,hws]
   exact All2.cons e13 (All2.cons e23 .nil)
  have eg2:H3 g=some (.lst (us.map V.ref)):=by rw [hus];exact eg
  have hq2:∀ b,(b=ws.all fun ab=>okE qs ab.1 ab.2)→Q (.bl b) H3:=fun b e=>by
   have:=q H3 s3
   rw [e,hws]
   simpa using this
  have hd3:=s3 _ _ hd
  refine ⟨g,_,rfl,.of eg2,jq (xs:=us.map V.ref) (fun i σ J=>J=H3∧(∀ (j:Nat) ab,j < i→ws[j]?=some ab→okE qs ab.1 ab.2=true)∧∃ y2 y3,σ=[some (.ref d),some (.ref a),y2,y3]) ⟨rfl,(fun j _ h=>by omega),_,_,rfl⟩ (fun i σ J _ hp=>by rw [hp.1];exact .of eg2) (fun i y σ J hy hp=>?_) fun σ J hp=>?_⟩
  ·obtain ⟨rfl,hgo,y2,y3,rfl⟩:=hp
   rw [yd] at hy
   obtain ⟨t,ht,rfl⟩:=yn.mp hy
   obtain ⟨ab,hab⟩:∃ ab,ws[i]?=some ab:=⟨_,yb (by rw [← hAl.len];exact (yc.mp ht).1)⟩
   have et:=hAl.at_ i t ab ht hab
   refine ⟨t,_,rfl,.of et,rfl,_,_,rfl,_,_,rfl,rfl,?_⟩
   have good:okE qs ab.1 ab.2=true→∀ (j:Nat) ab',j < i + 1→ws[j]?=some ab'→okE qs ab'.1 ab'.2=true:=fun ho j ab' hj e=>by
    rcases Nat.lt_succ_iff_lt_or_eq.mp hj with h | h
    ·exact hgo j ab' h e
    ·subst h;rw [hab] at e;cases e;exact ho
   ext
   refine .inr (.inl ⟨d,_,rfl,DGet.k (k:=Sum.inr ab.1) hd3,?_⟩)
   rw [if_neg (by decide),jz]
   cases hpt:pt qs ab.1 with
   | none =>
    refine ⟨false,rfl,?_⟩
    refine yq ?_
    refine yq ?_
    exact ⟨rfl,good (by unfold okE;rw [hpt];simp),_,_,rfl⟩
   | some m =>
    refine ⟨true,rfl,j9 ?_⟩
    ext
    refine .inr ⟨d,.str m,rfl,?_,?_⟩
    ·have:=DGet.k (k:=Sum.inr ab.1) hd3
     rwa [jz,hpt] at this
    ext
    refine qhg ⟨_,rfl,?_⟩
    by_cases hm:m=ab.2
    ·rw [decide_eq_true hm]
     refine yq ?_
     exact ⟨rfl,good (by unfold okE;rw [hpt,hm];simp),_,_,rfl⟩
    ·rw [yl hm]
     refine j9 ?_
     ext
     refine hq2 false ?_
     symm
     rw [List.all_eq_false]
     refine ⟨ab,ye hab,?_⟩
     unfold okE
     rw [hpt]
     simp [hm]
  ·obtain ⟨rfl,hgo,y2,y3,rfl⟩:=hp
   ext
   refine hq2 _ ?_
   symm
   rw [List.all_eq_true]
   intro ab hab
   obtain ⟨j,hj⟩:=yf hab
   refine hgo j ab ?_ hj
   rw [ya,hAl.len]
   exact (yc.mp hj).1
theorem pl_but {p l:Addr} {N:Nat} {H J:Hp} {ts:List Addr} {tps:List (Str×Str)} (h:PL H l ts tps) (b:But p H J) (hl:l≠p) (hB:Pn N H p):PL J l ts tps:=⟨b _ _ hl h.1,h.2.mono fun t ab z=>b _ _ (hB.tup z) z⟩
theorem eq_nilB {H:Hp} {l z:Addr} {xs:List Str} {Q:VK} (hl:H l=some (.lst (xs.map V.str))) (hz:H z=some (.lst [])) (q:Q (.bl xs.isEmpty) H):qfE K (.ref l) (.ref z) H Q:=by
 cases xs with
 | nil=>exact .inl (.inl (.inr (.inl ⟨l,z,true,1,rfl,rfl,by decide,EqT.lst (n:=0) (e:=fun _=>true) (SqL.of hl) (SqL.of hz) rfl fun j x y h=>by (simp at h),q⟩)))
 | cons x r=>exact .inl (.inl (.inr (.inl ⟨l,z,false,1,rfl,rfl,by decide,EqT.lstL (SqL.of hl) (SqL.of hz) (by simp),q⟩)))
def qhn:Sp:=fun vs H Q _=>∃ (p n l d:Addr) (ss:List Str) (ts:List Addr) (tps qs:List (Str×Str)) (N:Nat) (b:Bool),vs=[.ref p,.ref n,.ref l,.ref d,.bl b]∧Pn (N + 20) H p∧n≠p∧l≠p∧d≠p∧H n=some (.lst (ss.map V.str))∧NOk ss∧ss≠[]∧PL H l ts tps∧H d=some (.dK (prK qs)) ∧
 ∀ (r:Addr) (rs:List Str) (H':Hp),But p H H'→Pn N H' p→H r=none→r≠p→H' r=some (.lst (rs.map V.str))→(∀ s∈rs,s∈ss)→rs.length≤15→1≤rs.length→Q (.ref r) H'
theorem ok_wk (F:Fun K "_law_walk" "_law_walk" qar f fd) (T:Txt K mg cc cw) (D_l_take:DefOk P w K mg base CX0 1 "_law_take" ["_law_box_here", "_law_many"] qcT) (D_l_tied:DefOk P w K mg base CX0 1 "_law_tied" ["_law_ties", "_law_one", "_law_other"] qfA):FnOk P w K mg base CX0 2 f fd ["_law_box_here", "_law_names_here", "_law_ties", "_law_partners_here", "_law_strict"] qhn:=by
 refine F.ok sc_l_walk (fun vs H Q E h=>?_) fun cdv A outer s H vs Q E hr h=>?_
 ·obtain ⟨p,n,l,d,ss,ts,tps,qs,N,b,rfl,_⟩:=h;rfl
 ·obtain ⟨p,n,l,d,ss,ts,tps,qs,N,b,rfl,hB,hnp,hlp,hdp,hn,hO,hne,hP,hd,q⟩:=h
  have hu:=qah hr
  have hfew:ss.length≤14:=hO.few
  have hpos:0 < ss.length:=List.length_pos_iff.mpr hne
  have atS:∀ {xs:List Str} {j:Nat} {n:Str},xs[j]?=some n→(xs.map V.str)[j]?=some (.str n):=fun e=>by rw [yd,e];rfl
  obtain ⟨TC3,hTC3⟩:∃ t:TS,t=fun D σ J=>(∀ u H',Q u H'→D.rt u H')∧∃ (r:Addr) (s0:Str) (wi:Bool) (y7 y8 y9:Option V),σ=[some (.ref p),some (.ref n),some (.ref l),some (.ref d),some (.bl b),some (.ref r),some (.bl wi),y7,y8,y9]∧But p H J∧Pn (N + 18) J p∧H r=none∧r≠p∧J r=some (.lst ([s0].map V.str))∧s0∈ss:=⟨_,rfl⟩
  refine ⟨_,(qb (qu (i:=5) sc_l_walk.nd rfl (Or.inl rfl) (jv (qa (qx (qy (K:=K) rfl hu) (pv 1) (qr D_l_take (hmR hr) qz (qa (pv 0) (qa (qm (jX (K:=K) rfl) rfl T.b_len boot_len (qa (pv 1) qd)) qd))) (fun _ _=>rfl)) qd)))
 (qb (qu (i:=6) sc_l_walk.nd rfl (Or.inl rfl) (qV (qaz (K:=K) rfl hu) (qr D_l_take (hmR hr) qz (qa (pv 0) (qa qg qd))) qg (qA _)))
 (qb (qL (PW.pt (qav (qK (pv 4)) (qab (qv (jT (K:=K) rfl hu) (qx (qy (K:=K) rfl hu) (pv 5) qg (fun _ _=>rfl)) (pv 3) (by with_unfolding_all rfl))))) (qf (qu (i:=6) sc_l_walk.nd rfl (Or.inl rfl) jp)) qq)
 (qbV TC3 (qb (jm PassesOwn.never rfl (jw rfl T.b_range (qa (qm (jX (K:=K) rfl) rfl T.b_len boot_len (qa (pv 1) qd)) qd)) (qw (i:=7) sc_l_walk.nd rfl (Or.inl rfl))
 (qb (qu (i:=8) sc_l_walk.nd rfl (Or.inl rfl) (jv qd))
 (qb (jm PassesOwn.never rfl (jK (K:=K) rfl (pv 1)) (qw (i:=9) sc_l_walk.nd rfl (Or.inl rfl))
 (qf (qL (PW.pt (qav (qv (jT (K:=K) rfl hu) (pv 9) (pv 5) (by with_unfolding_all rfl)) (qab (qK (qr D_l_tied (hmR hr) qz (qa (pv 2) (qa (qx (qy (K:=K) rfl hu) (pv 5) (qbw qaw qg) (fun _ _=>rfl)) (qa (pv 9) qd)))))))) (qf (qL (PW.pt (qaD (qZ (qK (pv 4))) (qau (qv (qaz (K:=K) rfl hu) (qV (qaz (K:=K) rfl hu) (zt (qe6 hu) (pv 3) (qx (qy (K:=K) rfl hu) (pv 5) (qbw qaw qg) (fun _ _=>rfl)) ⟨rfl,rfl,rfl,rfl⟩) (pv 9) (qA _)) (pv 6) (qA _))))) (qf (qU (qdI (K:=K) rfl PySem.F.plainAttrs_list PySem.F.slot_list_append PySem.F.type_list_append jf (pv 8) (qa (pv 9) qd)))) qq)) qq)))
 (qb (qL (qv (qaz (K:=K) rfl hu) (pv 8) (jv qd) (qA _)) (qf (qp (pv 5))) qq)
 (qb (qU (qdI (K:=K) rfl PySem.F.plainAttrs_list PySem.F.slot_list_append PySem.F.type_list_append jf (pv 5) (qa (qx (qy (K:=K) rfl hu) (pv 8) (qr D_l_take (hmR hr) qz (qa (pv 0) (qa (qm (jX (K:=K) rfl) rfl T.b_len boot_len (qa (pv 8) qd)) qd))) (fun _ _=>rfl)) qd)))
 (qf (qu (i:=6) sc_l_walk.nd rfl (Or.inl rfl) (qeL (pv 6)))))))))
 (qf (qp (pv 5)))) ?cut3)))),?_⟩
  case cut3 =>
   intro D σ J h
   rw [hTC3] at h
   obtain ⟨hD,r,s0,wi,y7,y8,y9,rfl,b1,hB1,hrH,hrp,er,hs0⟩:=h
   have hn1:=b1 _ _ hnp hn
   ext
   refine qaU hn1 ?_
   rw [ya]
   ext
   refine ⟨(ss.length:Int),rfl,by omega,by omega,?_⟩
   rw [Int.toNat_natCast]
   refine jW (lo:=0) (n:=ss.length) (fun i σ G=>But p H G∧Pn (N + (18 - i)) G p∧∃ (rs:List Str) (wi:Bool) (y7 y8 y9:Option V),σ=[some (.ref p),some (.ref n),some (.ref l),some (.ref d),some (.bl b),some (.ref r),some (.bl wi),y7,y8,y9]∧G r=some (.lst (rs.map V.str))∧(∀ s∈rs,s∈ss)∧rs.length=i + 1) ⟨b1,hB1,[s0],wi,_,_,_,rfl,er,(fun s h=>by rw [List.mem_singleton.mp h];exact hs0),rfl⟩ (fun i σ G hi hp=>?_) fun σ G hp=>?_
   ·obtain ⟨bG,hBG,rs,wi',z7,z8,z9,rfl,erG,hrs,hrl⟩:=hp
    obtain ⟨la,hla⟩:∃ la,rs[rs.length - 1]?=some la:=⟨_,yb (by omega)⟩
    have back:atI (rs.map V.str) (-((1:Nat):Int))=some (.str la):=qbd (by decide) (by rw [ya];omega) (by rw [ya];exact atS hla)
    ext
    refine ⟨by show 0≤sizeLine;decide,fun m hm=>?_⟩
    have hmp:m≠p:=hBG.apart hm
    have hmr:m≠r:=fun z=>by rw [z,erG] at hm;cases hm
    have hmH:H m=none:=bG.free7 hmp hm
    have sM:=qX (Sr G) (o:=.lst []) hm
    have em:upd G m (.lst []) m=some (.lst (([]:List Str).map V.str)):=qc
    generalize upd G m (.lst [])=M at sM em
    have bM:But p H M:=bG.trans7 fun c o _ e=>sM c o e
    have hnM:=bM _ _ hnp hn
    ext
    refine .inl ⟨⟨_,.of hnM⟩,jq (xs:=ss.map V.str) (fun k σ J=>L2.Same G J∧∃ (ms:List Str) (z9:Option V),σ=[some (.ref p),some (.ref n),some (.ref l),some (.ref d),some (.bl b),some (.ref r),some (.bl wi'),some (.int (i:Int)),some (.ref m),z9]∧J m=some (.lst (ms.map V.str))∧(∀ s∈ms,s∈ss)∧ms.length≤k) ⟨sM,[],_,by rw [Int.zero_add];rfl,em,(fun s h=>by cases h),yh _⟩ (fun k σ J _ hp=>.of (hp.1 _ _ (bG _ _ hnp hn))) (fun k y σ J hy hp=>?_) fun σ J hp=>?_⟩
    ·obtain ⟨sJ,ms,z9',rfl,emJ,hms,hml⟩:=hp
     rw [yd] at hy
     obtain ⟨nm,hnm,rfl⟩:=yn.mp hy
     have hk:k < ss.length:=(yc.mp hnm).1
     have bJ:But p H J:=bG.trans7 fun c o _ e=>sJ c o e
     have erJ:=sJ _ _ erG
     ext
     refine qcV erJ ⟨_,rfl,?_⟩
     have skip:∀ J2,L2.Same J J2→L2.Same G J2∧∃ (ms:List Str) (z9:Option V),[some (V.ref p),some (.ref n),some (.ref l),some (.ref d),some (.bl b),some (.ref r),some (.bl wi'),some (.int (i:Int)),some (.ref m),some (.str nm)]=[some (.ref p),some (.ref n),some (.ref l),some (.ref d),some (.bl b),some (.ref r),some (.bl wi'),some (.int (i:Int)),some (.ref m),z9]∧J2 m=some (.lst (ms.map V.str))∧(∀ s∈ms,s∈ss)∧ms.length≤k + 1:=fun J2 s2=>⟨sJ.trans s2,ms,_,rfl,s2 _ _ emJ,hms,by omega⟩
     by_cases hin:nm∈rs
     ·rw [decide_eq_true hin]
      refine yq ?_
      refine yq ?_
      exact skip J (Sr J)
     ·rw [yl hin]
      refine j9 ?_
      ext
      refine ⟨1,rfl,?_⟩
      refine .inl (zk erJ back ?_)
      ext
      refine ⟨l,ts,tps,la,nm,rfl,pl_but hP bJ hlp hB,fun J2 s2=>⟨_,rfl,?_⟩⟩
      by_cases hti:(la,nm)∈tps∨(nm,la)∈tps
      ·rw [decide_eq_true hti]
       refine j9 ?_
       have em2:=s2 _ _ emJ
       have app:qcG (.ref m) [.str nm] J2 fun _ J3=>L2.Same G J3∧∃ (ms:List Str) (z9:Option V),[some (V.ref p),some (.ref n),some (.ref l),some (.ref d),some (.bl b),some (.ref r),some (.bl wi'),some (.int (i:Int)),some (.ref m),some (.str nm)]=[some (.ref p),some (.ref n),some (.ref l),some (.ref d),some (.bl b),some (.ref r),some (.bl wi'),some (.int (i:Int)),some (.ref m),z9]∧J3 m=some (.lst (ms.map V.str))∧(∀ s∈ms,s∈ss)∧ms.length≤k + 1:=by
        refine ⟨m,_,_,rfl,rfl,em2,by rw [ya,sizeLine_eq];omega,qbG (sJ.trans s2) hm,ms++[nm],_,rfl,by rw [qc,List.map_append];rfl,fun s hs=>?_,by rw [List.length_append];simp;omega⟩
        rcases List.mem_append.mp hs with h | h
        ·exact hms s h
        ·rw [List.mem_singleton.mp h];exact ye hnm
       ext
       have hd2:=s2 _ _ (bJ _ _ hdp hd)
       have er2:=s2 _ _ erJ
       cases b with
       | false =>
        refine j9 (j9 ?_)
        ext
        refine ⟨.inl ⟨rfl,_,.of em2⟩,?_⟩
        ext
        exact app
       | true =>
        refine yq ?_
        ext
        refine qa2 ?_
        ext
        refine ⟨d,rfl,.inl ⟨_,.inl hd2⟩,?_⟩
        ext
        refine ⟨1,rfl,?_⟩
        refine .inl (zk er2 back ?_)
        refine ⟨_,DGet.k (k:=Sum.inr la) hd2,?_⟩
        rw [jz]
        ext
        refine qek ?_
        ext
        refine .inl (.inl (.inl ⟨rfl,rfl,?_⟩))
        refine ⟨_,rfl,qI (fun _=>?_) fun _=>?_⟩
        ·ext
         refine ⟨.inl ⟨rfl,_,.of em2⟩,?_⟩
         ext
         exact app
        ·exact skip J2 s2
      ·rw [yl hti]
       refine yq ?_
       exact skip J2 s2
    ·obtain ⟨sJ,ms,z9',rfl,emJ,hms,hml⟩:=hp
     rw [ya] at hml
     have bJ:But p H J:=bG.trans7 fun c o _ e=>sJ c o e
     have erJ:=sJ _ _ erG
     have hBJ:=hBG.same sJ
     rw [show N + (18 - i)=N + (18 - (i + 1)) + 1 by omega] at hBJ
     ext
     refine ⟨by show 0≤sizeLine;decide,fun e he=>?_⟩
     have sE:=qX (Sr J) (o:=.lst []) he
     have ee:upd J e (.lst []) e=some (.lst []):=qc
     generalize upd J e (.lst [])=J2 at sE ee
     have b2:But p H J2:=bJ.trans7 fun c o _ x=>sE c o x
     have hB2:=hBJ.same sE
     have em2:=sE _ _ emJ
     have er2:=sE _ _ erJ
     refine eq_nilB em2 ee ⟨_,rfl,?_⟩
     cases ms with
     | nil =>
      refine j9 ?_
      ext
      exact hD _ _ (q r rs J2 b2 (hB2.mono (by omega)) hrH hrp er2 hrs (by omega) (by omega))
     | cons m0 mr =>
      refine yq ?_
      ext
      refine ⟨.inl ⟨rfl,_,.of er2⟩,?_⟩
      ext
      refine qaU em2 ?_
      rw [ya]
      ext
      refine ⟨p,(m0::mr).length,N + (18 - (i + 1)),rfl,hB2,by simp,by omega,fun j4 J4 hj4 b4 hB4=>?_⟩
      have b04:=b2.trans7 b4
      have em4:=b4 _ _ hmp em2
      have er4:=b4 _ _ hrp er2
      obtain ⟨s4,hs4⟩:∃ s4,(m0::mr)[j4]?=some s4:=⟨_,yb hj4⟩
      refine .inl (zk em4 (v:=.str s4) (qt (atS hs4)) ?_)
      ext
      refine ⟨r,_,_,rfl,rfl,er4,by rw [ya,sizeLine_eq];omega,?_⟩
      have b5:But p H (upd J4 r (.lst (rs.map V.str++[.str s4]))):=fun c o hc e=>by
       rw [qh (fun z=>by rw [z,hrH] at e;cases e)]
       exact b04 c o hc e
      have hB5:Pn (N + (18 - (i + 1))) (upd J4 r (.lst (rs.map V.str++[.str s4]))) p:=by
       obtain ⟨a1,a2,a3,e,rest⟩:=hB4
       exact ⟨a1,a2,a3,by rw [qh (Ne.symm hrp)];exact e,rest⟩
      have er5:upd J4 r (.lst (rs.map V.str++[.str s4])) r=some (.lst ((rs++[s4]).map V.str)):=by rw [qc,List.map_append];rfl
      generalize upd J4 r (.lst (rs.map V.str++[.str s4]))=J5 at b5 hB5 er5
      ext
      refine ⟨b5,hB5,rs++[s4],_,_,_,_,rfl,er5,fun s hs=>?_,by rw [List.length_append,hrl];rfl⟩
      rcases List.mem_append.mp hs with h | h
      ·exact hrs s h
      ·rw [List.mem_singleton.mp h];exact hms _ (ye hs4)
   ·obtain ⟨bG,hBG,rs,wi',z7,z8,z9,rfl,erG,hrs,hrl⟩:=hp
    ext
    exact hD _ _ (q r rs G bG (hBG.mono (by omega)) hrH hrp erG hrs (by omega) (by omega))
  ext
  refine qaU hn ?_
  rw [ya]
  ext
  refine ⟨p,ss.length,N + 19,rfl,hB,hpos,by omega,fun j0 H1 hj0 b1 hB1=>?_⟩
  have hn1:=b1 _ _ hnp hn
  obtain ⟨s0,hs0⟩:∃ s0,ss[j0]?=some s0:=⟨_,yb hj0⟩
  have hs0m:=ye hs0
  refine .inl (zk hn1 (v:=.str s0) (qt (atS hs0)) ?_)
  ext
  refine ⟨by show 1≤sizeLine;decide,fun r hr0=>?_⟩
  have hrp:r≠p:=hB1.apart hr0
  have hrH:H r=none:=b1.free7 hrp hr0
  have b2:But p H (upd H1 r (.lst ([s0].map V.str))):=b1.new7 hr0
  have er:upd H1 r (.lst ([s0].map V.str)) r=some (.lst ([s0].map V.str)):=qc
  have hB2:Pn (N + 19) (upd H1 r (.lst ([s0].map V.str))) p:=hB1.new hr0
  show qgv _ _ _ _ (upd H1 r (.lst ([s0].map V.str)))
  generalize upd H1 r (.lst ([s0].map V.str))=H2 at b2 er hB2
  ext
  refine ⟨p,2,N + 18,rfl,hB2,by decide,by decide,fun w0 H3 hw0 b3 hB3=>?_⟩
  have b03:=b2.trans7 b3
  have er3:=b3 _ _ hrp er
  have hd3:=b03 _ _ hdp hd
  ext
  refine qf8 ?_
  obtain ⟨wi,hwi⟩:∃ wi:Bool,wi=decide ((w0:Int)=0):=⟨_,rfl⟩
  rw [← hwi]
  have fin:∀ wi:Bool,TC3 { nx:=fun x H'=>Q V.non H',rt:=Q } [some (.ref p),some (.ref n),some (.ref l),some (.ref d),some (.bl b),some (.ref r),some (.bl wi),none,none,none] H3:=fun wi=>by
   rw [hTC3]
   exact ⟨fun u H' h=>h,r,s0,wi,_,_,_,rfl,b03,hB3,hrH,hrp,er3,hs0m⟩
  ext
  cases b with
  | false =>
   refine yq ?_
   refine yq ?_
   exact fin wi
  | true =>
   refine j9 ?_
   ext
   refine .inl (zk er3 (v:=.str s0) (qt (j:=0) rfl) ?_)
   ext
   refine .inr (.inl ⟨d,_,rfl,DGet.k (k:=Sum.inr s0) hd3,?_⟩)
   refine ⟨_,rfl,qI (fun _=>?_) fun _=>?_⟩
   ·ext
    exact fin false
   ·exact fin wi
theorem qdA {p:Addr} {n:Nat} {H H':Hp} {f:List V→Bool} {v:V} (h:Th p H n v) (s:L2.Same H H'):onL H' f v=onL H f v:=by
 cases h with
 | lst e ne h l=>rw [jM e,jM (s _ _ e)]
 | tup e ne h l=>unfold onL;dsimp only;rw [e,s _ _ e]
 | dct e ne=>unfold onL;dsimp only;rw [e,s _ _ e]
 | flat f l=>cases v<;>first | rfl | cases f
abbrev Sm (p:Addr) (J:Hp) (xs:List V):Prop:=∀ y∈xs,Ok p J 2 20 4 y
theorem Sm.lst {p a:Addr} {J:Hp} {xs:List V} (h:Sm p J xs) (e:J a=some (.lst xs)) (hap:a≠p) (hl:xs.length≤40):Ok p J 3 4000 5 (.ref a):=(Ok.lst (k:=2) e hap (by omega) h).mono (by have:=Nat.mul_le_mul_left 21 hl;omega) (by decide)
theorem Sm.tup {p a:Addr} {J:Hp} {xs:List V} (h:Sm p J xs) (e:J a=some (.tup xs)) (hap:a≠p) (hl:xs.length≤40):Ok p J 3 4000 5 (.ref a):=(Ok.tup (k:=2) e hap (by omega) h).mono (by have:=Nat.mul_le_mul_left 21 hl;omega) (by decide)
theorem qdB {p:Addr} {J:Hp} {rs:List Str} (h:∀ s∈rs,j3 s=true):Sm p J (rs.map V.str):=fun y hy=>by
 obtain ⟨s,hs,rfl⟩:=List.mem_map.mp hy
 exact (Ok.name (m:=4) (h s hs)).mono (by decide) (by decide)
theorem sl_toV {G:Hp} {g:Addr} {xs:List V} {k:Nat} {Q:VK} (e:G g=some (.lst xs)) (q:∀ p,G p=none→Q (.ref p) (upd G p (.lst (xs.take k)))):qgo K (.ref g) none (some (k:Int)) G Q:=.inl ⟨g,_,rfl,SqL.of e,fun p hp=>by rw [cutV_take];exact q p hp⟩
theorem WebAt.freshA {cw x p:Addr} {H:Hp} {ss:List Str} {ns:List Nat} (h:WebAt cw H x ss ns) (hp:H p=none):WebP (fun a=>a=p) cw H x ss ns:=by
 obtain ⟨dx,d,ol,n,h1,h2,h3,h4,h5⟩:=h
 have nx:∀ {a:Addr} {o:HO},H a=some o→¬ a=p:=fun e z=>by rw [z,hp] at e;cases e
 exact ⟨dx,d,ol,n,h1,h2,h3,h4,h5,nx h1,nx h2,nx h3,nx h4⟩
theorem web_made2 {cc:Nat→Addr} {cw:Addr} {G:Hp} {c1 l' x dx:Addr} {ss:List Str} {us:List Addr} {tps ups:List (Str×Str)} {Q:VK} {E:XK} (h1:G c1=some (.lst (ss.map V.str))∨G c1=some (.tup (ss.map V.str))) (h2:G l'=some (.lst (us.map V.ref))∨G l'=some (.tup (us.map V.ref))) (hA:All2 (fun t ab=>G t=some (.tup [.str ab.1,.str ab.2])) us ups)
  (hO:NOk ss) (hT:TOk ss tps) (sh:Shuf tps ups) (hx0:G x=none) (hdx:G dx=none) (hne:x≠dx) (q:∀ ns H',L2.Same G H'→WebN G cw H' x ss ns→qa4 ss ns ups→Q .non H') :
  qeC cc cw [.ref x,.ref c1,.ref l'] (upd (upd G dx (.own x)) x (.ins cw dx [])) Q E:=by
 have s0:L2.Same G (upd (upd G dx (.own x)) x (.ins cw dx [])):=qX (qX (Sr G) hdx) (by rw [qh hne];exact hx0)
 have hl0:=hA.mono fun t ab z=>s0 _ _ z
 have mk0:=make_ok (H:=upd (upd G dx (.own x)) x (.ins cw dx [])) (v:=.ref c1) (v2:=.ref l') hO hT sh hl0
 have nx:∀ {a:Addr} {o:HO},G a=some o→a≠x:=fun e z=>by rw [z,hx0] at e;cases e
 have a1:Arg x (upd (upd G dx (.own x)) x (.ins cw dx [])) (.ref c1) (some (ss.map V.str)):=by
  have hs:∀ v∈ss.map V.str,Th x (upd (upd G dx (.own x)) x (.ins cw dx [])) 2 v:=fun v hv=>by
   obtain ⟨s,hs,rfl⟩:=List.mem_map.mp hv
   exact Th.flat rfl fun z e=>by cases e;have:=j5 (hO.nm _ hs);omega
  have hl:(ss.map V.str).length≤1000:=by rw [ya];have:=hO.few;omega
  rcases h1 with h | h
  ·exact .lst (s0 _ _ h) (nx h) hs hl
  ·exact .tup (s0 _ _ h) (nx h) hs hl
 have a2:Arg x (upd (upd G dx (.own x)) x (.ins cw dx [])) (.ref l') (some (us.map V.ref)):=by
  have hs:∀ v∈us.map V.ref,Th x (upd (upd G dx (.own x)) x (.ins cw dx [])) 2 v:=fun v hv=>by
   obtain ⟨u,hu',rfl⟩:=List.mem_map.mp hv
   obtain ⟨ab,hab,eu⟩:=hA.mem hu'
   obtain ⟨g1,g2,_⟩:=sh.good hT ab hab
   exact Th.tup (n:=1) (s0 _ _ eu) (nx eu) (qgs (Th.flat rfl fun z e=>by cases e;have:=j5 (hO.nm _ g1);omega) (Th.flat rfl fun z e=>by cases e;have:=j5 (hO.nm _ g2);omega)) (by show 2≤1000;decide)
  have hl:(us.map V.ref).length≤1000:=by rw [ya,hA.len,sh.len];have:=hT.few;omega
  rcases h2 with h | h
  ·exact .lst (s0 _ _ h) (nx h) hs hl
  ·exact .tup (s0 _ _ h) (nx h) hs hl
 refine ⟨x,x,dx,.ref c1,some (ss.map V.str),.ref l',some (us.map V.ref),rfl,qc,a1,a2,(fun r e=>by rw [mk0.1] at e;cases e),fun _ ns H' b hWN hbits=>?_⟩
 have e1:((some (ss.map V.str)).getD []).map qH=ss:=zq ss
 rw [e1] at hbits hWN
 have e2:((some (us.map V.ref)).getD []).filterMap (zv (upd (upd G dx (.own x)) x (.ins cw dx [])) ss)=ups:=mk0.2
 rw [e2] at hbits
 exact q ns H' (b.out s0 hx0) (hWN.old s0) hbits
def ori (ss:List Str) (q:Str×Str):Str×Str:=if ss.idxOf q.1 < ss.idxOf q.2 then q else (q.2,q.1)
theorem qbt (ss:List Str) (q:Str×Str):ori ss q=q∨ori ss q=(q.2,q.1):=by unfold ori;split;exact .inl rfl;exact .inr rfl
theorem dt_tok {ss:List Str} {tps:List (Str×Str)} (hO:NOk ss) (h:DT ss tps):TOk ss (tps.map (ori ss))∧Shuf (tps.map (ori ss)) tps:=by
 have at_:∀ s∈ss,ss[ss.idxOf s]?=some s:=fun s hs=>by
  have hl:=List.idxOf_lt_length_of_mem hs
  rw [yb hl,List.getElem_idxOf]
 refine ⟨⟨by rw [ya];exact h.few,fun ab hab=>?_,?_⟩,tps,List.Perm.refl _,⟨by rw [ya],fun k a b ha hb=>?_⟩⟩
 ·obtain ⟨q,hq,rfl⟩:=List.mem_map.mp hab
  obtain ⟨m1,m2,hne⟩:=h.ok q hq
  have hni:ss.idxOf q.1≠ss.idxOf q.2:=fun e=>hne (by have:=at_ _ m1;rw [e,at_ _ m2] at this;exact (ym this).symm)
  unfold ori
  split
  ·exact ⟨_,_,by assumption,at_ _ m1,at_ _ m2⟩
  ·exact ⟨ss.idxOf q.2,ss.idxOf q.1,by omega,at_ _ m2,at_ _ m1⟩
 ·have key:∀ l:List (Str×Str),(∀ q∈l,q∈tps)→l.Nodup→(l.map (ori ss)).Nodup:=fun l=>by
   induction l with
   | nil=>exact fun _ _=>.nil
   | cons a r ih =>
    intro hl hn
    obtain ⟨n1,n2⟩:=yo.mp hn
    refine yo.mpr ⟨fun z=>?_,ih (fun q hq=>hl q (List.mem_cons_of_mem _ hq)) n2⟩
    obtain ⟨b,hb,e⟩:=List.mem_map.mp z
    have hat:=hl a List.mem_cons_self
    have hbt:=hl b (List.mem_cons_of_mem _ hb)
    rcases qbt ss a with ea | ea<;>rcases qbt ss b with eb | eb<;>rw [ea,eb] at e
    ·rw [e] at hb;exact n1 hb
    ·have:a=(b.2,b.1):=e.symm
     rw [this] at hat
     exact h.one b hbt hat
    ·rw [e] at hbt
     exact h.one a hat hbt
    ·have e1:b=a:=Prod.ext (congrArg Prod.snd e) (congrArg Prod.fst e)
     rw [e1] at hb;exact n1 hb
  exact key tps (fun _ h=>h) h.nd
 ·rw [yd,hb] at ha
  cases ha
  rcases qbt ss b with e | e
  ·exact .inl e.symm
  ·refine .inr ?_
   rw [e]
theorem adj_bits {ss:List Str} {ns:List Nat} {tps:List (Str×Str)} (h:qa4 ss ns tps):Adj ss ns tps:=fun a b s t ga gb=>by rw [h.2.2 a b s t ga gb,decide_eq_true_iff]
def adjR (rs:List Str) (a b:Str):Prop:=∃ j:Nat,(rs[j]?=some a∧rs[j + 1]?=some b)∨(rs[j]?=some b∧rs[j + 1]?=some a)
theorem adjR.symm {rs:List Str} {a b:Str} (h:adjR rs a b):adjR rs b a:=h.elim fun j z=>⟨j,z.symm⟩
theorem adjR.mem {rs:List Str} {a b:Str} (h:adjR rs a b):a∈rs∧b∈rs:=h.elim fun j z=>z.elim (fun y=>⟨ye y.1,ye y.2⟩) fun y=>⟨ye y.2,ye y.1⟩
structure TurnR (f:Str→Option Str) (rs:List Str):Prop where
 nd:rs.Nodup
 two:2≤rs.length
 sym:∀ a b,f a=some b→f b=some a
 alt:∀ (j:Nat) r s t,rs[j]?=some r→rs[j + 1]?=some s→rs[j + 2]?=some t→(f s=some r↔¬ f s=some t)
 fst:∀ s t,rs[0]?=some s→rs[1]?=some t→f s=none∨f s=some t
 lst:∀ s t,rs[rs.length - 1]?=some s→rs[rs.length - 2]?=some t→f s=none∨f s=some t
theorem TurnR.near {f:Str→Option Str} {rs:List Str} (h:TurnR f rs) {a b:Str} (ha:a∈rs) (hf:f a=some b):adjR rs a b:=by
 obtain ⟨i,hi⟩:=yf ha
 have hil:i < rs.length:=(yc.mp hi).1
 have h2:=h.two
 by_cases h0:i=0
 ·subst h0
  obtain ⟨t,ht⟩:∃ t,rs[1]?=some t:=⟨_,yb (by omega)⟩
  rcases h.fst a t hi ht with z | z
  ·rw [z] at hf;cases hf
  ·rw [hf] at z;cases z;exact ⟨0,.inl ⟨hi,ht⟩⟩
 ·by_cases hl:i=rs.length - 1
  ·obtain ⟨t,ht⟩:∃ t,rs[rs.length - 2]?=some t:=⟨_,yb (by omega)⟩
   rcases h.lst a t (by rw [← hl];exact hi) ht with z | z
   ·rw [z] at hf;cases hf
   ·rw [hf] at z;cases z;exact ⟨rs.length - 2,.inr ⟨ht,by rw [show rs.length - 2 + 1=i by omega];exact hi⟩⟩
  ·obtain ⟨r,hr⟩:∃ r,rs[i - 1]?=some r:=⟨_,yb (by omega)⟩
   obtain ⟨t,ht⟩:∃ t,rs[i + 1]?=some t:=⟨_,yb (by omega)⟩
   have hi1:i - 1 + 1=i:=by omega
   have hi2:i - 1 + 2=i + 1:=by omega
   have:=h.alt (i - 1) r a t hr (by rw [hi1];exact hi) (by rw [hi2];exact ht)
   by_cases z:f a=some t
   ·rw [hf] at z;cases z;exact ⟨i,.inl ⟨hi,ht⟩⟩
   ·have z:=this.mpr z
    rw [hf] at z;cases z;exact ⟨i - 1,.inr ⟨hr,by rw [hi1];exact hi⟩⟩
def flipR (f:Str→Option Str) (rs:List Str) (a b:Str):Prop:=(a∉rs∧f a=some b)∨(adjR rs a b∧f a≠some b)
theorem TurnR.xor {f:Str→Option Str} {rs:List Str} (h:TurnR f rs) {a b:Str}:flipR f rs a b↔¬ (f a=some b↔adjR rs a b):=by
 unfold flipR
 constructor
 ·rintro (⟨h1,h2⟩ | ⟨h1,h2⟩) e
  ·exact h1 (e.mp h2).mem.1
  ·exact h2 (e.mpr h1)
 ·intro e
  by_cases h1:f a=some b
  ·refine .inl ⟨fun hm=>e ⟨fun _=>h.near hm h1,fun _=>h1⟩,h1⟩
  ·by_cases h2:adjR rs a b
   ·exact .inr ⟨h2,h1⟩
   ·exact absurd ⟨fun z=>absurd z h1,fun z=>absurd z h2⟩ e
theorem flipR.symm {f:Str→Option Str} {rs:List Str} (h:TurnR f rs) {a b:Str} (e:flipR f rs a b):flipR f rs b a:=by
 rcases e with ⟨h1,h2⟩ | ⟨h1,h2⟩
 ·refine .inl ⟨fun hm=>?_,h.sym _ _ h2⟩
  exact h1 (h.near hm (h.sym _ _ h2)).mem.2
 ·exact .inr ⟨h1.symm,fun z=>h2 (h.sym _ _ z)⟩
theorem adjR.at_ {rs:List Str} (nd:rs.Nodup) {i:Nat} {a b:Str} (hi:rs[i]?=some a) (h:adjR rs a b):rs[i + 1]?=some b∨(1≤i∧rs[i - 1]?=some b):=by
 obtain ⟨j,⟨h1,h2⟩ | ⟨h1,h2⟩⟩:=h
 ·have:=zJ nd hi h1
  subst this
  exact .inl h2
 ·have:=zJ nd hi h2
  subst this
  exact .inr ⟨by omega,by simpa using h1⟩
theorem flipR.one {f:Str→Option Str} {rs:List Str} (h:TurnR f rs) {a b c:Str} (e1:flipR f rs a b) (e2:flipR f rs a c):b=c:=by
 rcases e1 with ⟨h1,h2⟩ | ⟨h1,h2⟩
 ·rcases e2 with ⟨h3,h4⟩ | ⟨h3,h4⟩
  ·rw [h2] at h4;exact ym h4
  ·exact absurd h3.mem.1 h1
 ·rcases e2 with ⟨h3,h4⟩ | ⟨h3,h4⟩
  ·exact absurd h1.mem.1 h3
  ·obtain ⟨i,hi⟩:=yf h1.mem.1
   have key:∀ {b c:Str},rs[i + 1]?=some b→1≤i→rs[i - 1]?=some c→f a≠some b→f a≠some c→False:=fun hb h1' hc n1 n2=>by
    have hi1:i - 1 + 1=i:=by omega
    have hi2:i - 1 + 2=i + 1:=by omega
    exact n2 ((h.alt (i - 1) _ a _ hc (by rw [hi1];exact hi) (by rw [hi2];exact hb)).mpr n1)
   rcases h1.at_ h.nd hi with z1 | ⟨l1,z1⟩<;>rcases h3.at_ h.nd hi with z2 | ⟨l2,z2⟩
   ·rw [z1] at z2;exact ym z2
   ·exact (key z1 l2 z2 h2 h4).elim
   ·exact (key z2 l1 z1 h4 h2).elim
   ·rw [z1] at z2;exact ym z2
theorem TurnR.again {f g:Str→Option Str} {rs:List Str} (h:TurnR f rs) (hg:∀ a b,g a=some b↔flipR f rs a b):TurnR g rs:=by
 have on:∀ {a b:Str},adjR rs a b→(g a=some b↔¬ f a=some b):=fun hab=>by
  rw [hg,h.xor]
  constructor
  ·exact fun e z=>e ⟨fun _=>hab,fun _=>z⟩
  ·exact fun e z=>e (z.mpr hab)
 have only:∀ {a b:Str},a∈rs→g a=some b→adjR rs a b:=fun ha e=>by
  rcases (hg _ _).mp e with ⟨h1,_⟩ | ⟨h1,_⟩
  ·exact absurd ha h1
  ·exact h1
 refine ⟨h.nd,h.two,fun a b e=>(hg _ _).mpr (((hg _ _).mp e).symm h),fun j r s t hr hs ht=>?_,fun s t hs ht=>?_,fun s t hs ht=>?_⟩
 ·have a1:adjR rs s r:=⟨j,.inr ⟨hr,hs⟩⟩
  have a2:adjR rs s t:=⟨j + 1,.inl ⟨hs,ht⟩⟩
  rw [on a1,on a2,h.alt j r s t hr hs ht]
 ·cases e:g s with
  | none=>exact .inl rfl
  | some b =>
   have:=(only (ye hs) e).at_ h.nd hs
   rcases this with z | ⟨z,_⟩
   ·rw [ht] at z;exact .inr (by rw [← e,e];exact z.symm ▸ rfl)
   ·omega
 ·cases e:g s with
  | none=>exact .inl rfl
  | some b =>
   have h2:=h.two
   have:=(only (ye hs) e).at_ h.nd hs
   rcases this with z | ⟨_,z⟩
   ·have:=(yc.mp z).1
    omega
   ·rw [show rs.length - 1 - 1=rs.length - 2 by omega,ht] at z
    exact .inr (by rw [← z])
theorem TurnR.twice {f g:Str→Option Str} {rs:List Str} (h:TurnR f rs) (hg:∀ a b,g a=some b↔flipR f rs a b) {a b:Str}:flipR g rs a b↔f a=some b:=by
 rw [(h.again hg).xor,hg,h.xor]
 constructor
 ·intro e
  exact Classical.byContradiction fun z=>e ⟨fun n=>Classical.byContradiction fun y=>n ⟨fun u=>absurd u z,fun u=>absurd u y⟩,fun y n=>z (n.mpr y)⟩
 ·intro e n
  by_cases y:adjR rs a b
  ·exact n.mpr y ⟨fun _=>y,fun _=>e⟩
  ·exact y (n.mp fun z=>y (z.mp e))
def qem (rs:List Str):List (Str×Str):=stp rs++(stp rs).map fun q=>(q.2,q.1)
def flT (dps qs:List (Str×Str)) (rs:List Str):List (Str×Str):=dps.filter fun q=>decide (pt qs q.1=some q.2) != decide (q∈qem rs)
def qeJ (cc:Nat→Addr) (cw:Addr):Sp:=fun vs H Q E=>∃ (p x:Addr) (ss:List Str) (ns:List Nat) (tps:List (Str×Str)) (v u:V),vs=[.ref x,v,u]∧WebAt cw H x ss ns∧Adj ss ns tps∧Th p H 3 v∧Th p H 3 u∧(apV H ss tps v=false→Rz cc H E (5,v)) ∧
 ∀ qs,GV H ss tps v qs→(onL H (ctL ss tps qs) u=false→Rz cc H E (6,u))∧∀ (a:Addr) (rs:List Str),u=.ref a→H a=some (.lst (rs.map V.str))→rs.Nodup→ctL ss tps qs (rs.map V.str)=true→∀ (l:Addr) (ls:List Addr) (H':Hp),L2.Same H H'→H l=none→H' l=some (.lst (ls.map V.ref))→ls.length≤196→All2 (PrAt H H' l) ls (flT (zD ss ns ss.length) qs rs)→Q (.ref l) H'
theorem qfh {H H':Hp} {l:Addr} {ts:List Addr} {xs ys:List Str} {qs:List (Str×Str)} (Z:Zl H H' l ts (xs.map V.str) (ys.map V.str)) (hl:qs.length=min xs.length ys.length) (h:∀ (j:Nat) q,qs[j]?=some q→xs[j]?=some q.1∧ys[j]?=some q.2):All2 (fun t ab=>H' t=some (.tup [.str ab.1,.str ab.2])) ts qs:=by
 refine ⟨by rw [Z.len,ya,ya,hl],fun j t ab ht hab=>?_⟩
 obtain ⟨e1,e2⟩:=h j ab hab
 obtain ⟨_,u,v,hu',hv',e⟩:=Z.tp j t ht
 rw [yd,e1] at hu'
 rw [yd,e2] at hv'
 cases hu'
 cases hv'
 exact e
theorem All2.app9 {α β:Type} {R:α→β→Prop} {l1 l2:List α} {m1 m2:List β} (a:All2 R l1 m1) (b:All2 R l2 m2):All2 R (l1++l2) (m1++m2):=by
 refine ⟨by rw [List.length_append,List.length_append,a.len,b.len],fun k x y hx hy=>?_⟩
 by_cases hk:k < l1.length
 ·rw [List.getElem?_append_left hk] at hx
  rw [List.getElem?_append_left (by rw [← a.len];exact hk)] at hy
  exact a.at_ k x y hx hy
 ·rw [List.getElem?_append_right (by omega)] at hx
  rw [List.getElem?_append_right (by rw [← a.len];omega),← a.len] at hy
  exact b.at_ _ x y hx hy
theorem cat_W {G:Hp} {a b:Addr} {xs ys:List V} {Q:VK} (ea:G a=some (.lst xs)) (eb:G b=some (.lst ys)) (hl:xs.length + ys.length≤2000) (q:∀ p,G p=none→Q (.ref p) (upd G p (.lst (xs++ys)))):qdY K (.ref a) (.ref b) G Q:=.inl ⟨a,b,_,_,rfl,rfl,ea,eb,yi hl (by decide),q⟩
theorem ok_tuG (F:Fun K "turned" "turned" zV f fd) (T:Txt K mg cc cw) (D_NoRow:XMakeOk P w K mg base 2 (cc 6) "NoRow" ["self", "found"] (spX (cc 6) (qa3 6))) (D_partners_in:DefOk P w K mg base (CX1 P w) 9 "partners_in" ["web", "pairs"] (qgr cc cw)) (D_Web_ties:MethOk P w K mg base CX0 7 cw "ties" ["self"] (qhd cw)) (D_can_turn:DefOk P w K mg base (CX1 P w) 11 "can_turn" ["web", "pairs", "thing"] (qhm cc cw)):FnOk P w K mg base (CX1 P w) 12 f fd ["web", "pairs", "row"] (qeJ cc cw):=by
 refine F.ok1 sc_turned (fun vs H Q E h=>?_) fun cdv A outer s H vs Q E hr h=>?_
 ·obtain ⟨p,x,ss,ns,tps,v,u,rfl,_⟩:=h;rfl
 ·obtain ⟨p,x,ss,ns,tps,v,u,rfl,hW,hA,hv,hu9,hE,q⟩:=h
  have hu:=qah hr
  obtain ⟨wx,dd,ol,nn,hb,_⟩:=id hW
  refine ⟨_,(qb (qL (qZ (qK (qag D_can_turn (hmR hr) jl (qa (pv 0) (qa (pv 1) (qa (pv 2) qd)))))) (qf (zl (K:=K) rfl jl (qbk D_NoRow (hmR hr) (qa (pv 2) qd)))) qq)
 (qb (qu (i:=3) sc_turned.nd rfl (Or.inr rfl) (qag D_partners_in (hmR hr) jl (qa (pv 0) (qa (pv 1) qd))))
 (qb (qu (i:=4) sc_turned.nd rfl (Or.inr rfl) (qB (jY (K:=K) rfl) (qcP (K:=K) rfl rfl rfl rfl T.b_list T.b_zip (qa (pv 2) (qa (jS (qes (K:=K) rfl) (pv 2) (jH qg) zL) qd))) (qcP (K:=K) rfl rfl rfl rfl T.b_list T.b_zip (qa (jS (qes (K:=K) rfl) (pv 2) (jH qg) zL) (qa (pv 2) qd)))))
 (qf (qp (qae (sc:=qe zV) (XN:=["web", "pairs", "row", "partners", "steps"]) ["tie", "steps", "partners"] 1 [4,3] rfl rfl rfl (by decide +kernel) rfl (by decide +kernel)
  (jK (K:=K) rfl (pe_meth0Q D_Web_ties (hmR hr) (pv 0))) (fun _ _ _ _=>(qw (i:=0) (show (["tie", "steps", "partners"]:List Str).Nodup by decide +kernel) rfl (Or.inl rfl))) zO
  (fun _ _ _ _=>(qbN (qv (qaK (K:=K) rfl hu) (qV (qaz (K:=K) rfl hu) (zt (qe6 hu) (pv 2) (qx (qy (K:=K) rfl hu) (pv 0) qg (fun _ _=>rfl)) ⟨rfl,rfl,rfl,rfl⟩) (qx (qy (K:=K) rfl hu) (pv 0) qg (fun _ _=>rfl)) (qA _)) (qV (qa6 (K:=K) rfl hu) (pv 0) (pv 1) (by with_unfolding_all rfl)) (qA _))))
  (fun _ _ _ _=>(pv 0)))))))),?_⟩
  ext
  refine ⟨p,x,ss,ns,tps,v,u,rfl,hW,hA,hv,hu9,hE,fun qs hq H1 s1=>?_⟩
  obtain ⟨qR,qT⟩:=q qs hq
  cases hct:onL H (ctL ss tps qs) u with
  | false =>
   refine ⟨_,rfl,j9 ?_⟩
   ext
   exact q8 (T.xat 6 (by decide)) ((qR hct).later s1)
  | true =>
   obtain ⟨a,xs,rfl,ha,hx⟩:∃ a xs,u=.ref a∧H a=some (.lst xs)∧ctL ss tps qs xs=true:=by
    unfold onL at hct
    split at hct
    ·split at hct
     ·rename_i a _ xs e;exact ⟨a,xs,rfl,e,hct⟩
     ·cases hct
    ·cases hct
   have hx2:=hx
   unfold ctL rwL at hx2
   obtain ⟨hx2,_⟩:=(Bool.and_eq_true _ _).mp hx2
   obtain ⟨hx2,_⟩:=(Bool.and_eq_true _ _).mp hx2
   obtain ⟨hun,h2⟩:=(Bool.and_eq_true _ _).mp hx2
   have h2:2≤xs.length:=yk h2
   obtain ⟨e1,e2,e3⟩:=qak hun
   have hxl:xs.length≤1000:=by
    cases hu9 with
    | lst e ne h l=>rw [ha] at e;cases e;exact l
    | tup e ne h l=>rw [ha] at e;cases e
    | dct e ne=>rw [ha] at e;cases e
    | flat f l=>cases f
   obtain ⟨rs,hrs⟩:∃ rs,rs=xs.map qH:=⟨_,rfl⟩
   rw [← hrs] at e1 e2 e3
   rw [e1] at ha hx
   rw [e1,ya] at h2 hxl
   have hfin:=qT a rs rfl ha e3 hx
   refine ⟨_,rfl,qI (fun h=>by cases h) fun _=>?_⟩
   ext
   refine ⟨p,x,ss,ns,tps,v,rfl,hW.same s1,hA,hv.same s1,fun h=>?_,fun qs2 hq2 d H2 s2 hd0 hd=>?_⟩
   ·rw [qdu hv s1,hq.tru] at h;cases h
   ·have eq:=hq2.one (hq.same hv s1)
    subst eq
    have s02:=s1.trans s2
    have ha2:=s02 _ _ ha
    have ec:qcz (rs.map V.str) (some 1) none=rs.tail.map V.str:=by
     have:=qaM (rs.map V.str) 1
     rw [← List.map_drop,List.drop_one] at this
     exact this
    ext
    refine vLZ ?_
    ext
    refine .inl ⟨a,_,rfl,SqL.of ha2,fun c1 hc1=>?_⟩
    rw [ec]
    have t1:=qX (Sr H2) (o:=.lst (rs.tail.map V.str)) hc1
    have ec1:upd H2 c1 (.lst (rs.tail.map V.str)) c1=some (.lst (rs.tail.map V.str)):=qc
    generalize upd H2 c1 (.lst (rs.tail.map V.str))=G1 at t1 ec1
    ext
    refine ⟨a,c1,_,_,rfl,SqL.of (t1 _ _ ha2),SqL.of ec1,by rw [ya];exact hxl,fun l1 ts1 G2 Z1=>?_⟩
    have t2:=t1.trans Z1.sm
    ext
    refine vLZ ?_
    ext
    refine .inl ⟨a,_,rfl,SqL.of (t2 _ _ ha2),fun c2 hc2=>?_⟩
    rw [ec]
    have t3:=qX (Sr G2) (o:=.lst (rs.tail.map V.str)) hc2
    have ec2:upd G2 c2 (.lst (rs.tail.map V.str)) c2=some (.lst (rs.tail.map V.str)):=qc
    generalize upd G2 c2 (.lst (rs.tail.map V.str))=G3 at t3 ec2
    have t23:=t2.trans t3
    ext
    refine ⟨c2,a,_,_,rfl,SqL.of ec2,SqL.of (t23 _ _ ha2),by rw [ya,List.length_tail];omega,fun l2 ts2 G4 Z2=>?_⟩
    have t4:=t23.trans Z2.sm
    have t24:=t3.trans Z2.sm
    have A1:=qfh (qs:=stp rs) Z1 (by rw [qaB,List.length_tail];omega) fun j q e=>by
     obtain ⟨z1,z2⟩:=stp_at.mp e
     exact ⟨z1,by rw [List.getElem?_tail];exact z2⟩
    have A2:=qfh (qs:=(stp rs).map fun q=>(q.2,q.1)) Z2 (by rw [ya,qaB,List.length_tail];omega) fun j q e=>by
     rw [yd] at e
     obtain ⟨q',e',rfl⟩:=yn.mp e
     obtain ⟨z1,z2⟩:=stp_at.mp e'
     exact ⟨by rw [List.getElem?_tail];exact z2,z1⟩
    have hl1:ts1.length≤1000:=by rw [A1.len,qaB];omega
    have hl2:ts2.length≤1000:=by rw [A2.len,ya,qaB];omega
    refine cat_W (t24 _ _ Z1.ls) Z2.ls (by rw [ya,ya,A1.len,A2.len,ya,qaB];omega) fun st hst=>?_
    have t5:=qX (Sr G4) (o:=.lst (ts1.map V.ref++ts2.map V.ref)) hst
    have est:upd G4 st (.lst (ts1.map V.ref++ts2.map V.ref)) st=some (.lst (ts1.map V.ref++ts2.map V.ref)):=qc
    generalize upd G4 st (.lst (ts1.map V.ref++ts2.map V.ref))=G5 at t5 est
    have t25:=t4.trans t5
    have hPS:PL G5 st (ts1++ts2) (qem rs):=⟨by rw [List.map_append];exact est,All2.app9 (A1.mono fun _ _ z=>(t24.trans t5) _ _ z) (A2.mono fun _ _ z=>t5 _ _ z)⟩
    have s05:=s02.trans t25
    have hd5:=t25 _ _ hd
    ext
    refine ⟨x,wx,_,rfl,s05 _ _ hb,qa7 (by decide +kernel),?_⟩
    ext
    refine ⟨x,ss,ns,rfl,hW.same s05,fun l ts G6 s6 hl0 hl hl196 hAl=>?_⟩
    have s06:=s05.trans s6
    have hd6:=s6 _ _ hd5
    have hPS6:=hPS.same s6
    refine .inl ⟨⟨_,.of hl⟩,qaf (xs:=ts.map V.ref) (fun i ys G=>G=G6∧∃ us:List Addr,ys=us.map V.ref∧us.length≤i∧All2 (fun t ab=>G5 t=none∧G6 t=some (.tup [.str ab.1,.str ab.2])) us (flT ((zD ss ns ss.length).take i) qs2 rs)) ⟨rfl,[],rfl,yh _,.nil⟩ (fun i ys G _ hp'=>by rw [hp'.1];exact .of hl) (fun i y ys G hy hp'=>?_) fun ys G hp'=>?_⟩
    ·obtain ⟨rfl,us,rfl,hul,hU⟩:=hp'
     rw [yd] at hy
     obtain ⟨t,ht,rfl⟩:=yn.mp hy
     have hi:i < ts.length:=(yc.mp ht).1
     obtain ⟨ab,hab⟩:∃ ab,(zD ss ns ss.length)[i]?=some ab:=⟨_,yb (by rw [← hAl.len];exact hi)⟩
     obtain ⟨z1,z2,z3⟩:=hAl.at_ i t ab ht hab
     have hstep:flT ((zD ss ns ss.length).take (i + 1)) qs2 rs=flT ((zD ss ns ss.length).take i) qs2 rs++(if (decide (pt qs2 ab.1=some ab.2) != decide (ab∈qem rs))=true then [ab] else []):=by
      unfold flT
      rw [List.take_add_one,hab,List.filter_append]
      show _++[ab].filter _=_
      rw [List.filter_cons,List.filter_nil]
     ext
     refine qa2 ?_
     ext
     refine ⟨d,rfl,.inl ⟨_,.inl hd6⟩,?_⟩
     ext
     refine .inl (qbE z3 (v:=.str ab.1) (qt (j:=0) rfl) ?_)
     refine ⟨_,DGet.k (k:=Sum.inr ab.1) hd6,?_⟩
     rw [jz]
     ext
     refine .inl (qbE z3 (v:=.str ab.2) (qt (j:=1) rfl) ?_)
     refine qek ?_
     ext
     refine qeD hPS6 z3 ?_
     refine .inl ⟨rfl,rfl,?_⟩
     have eb:eqV (.bl (decide (pt qs2 ab.1=some ab.2))) (.bl (decide ((ab.1,ab.2)∈qem rs)))=(decide (pt qs2 ab.1=some ab.2)==decide (ab∈qem rs)):=rfl
     rw [if_pos rfl,eb,hstep]
     refine ⟨_,rfl,?_⟩
     show if (decide (pt qs2 ab.1=some ab.2) != decide (ab∈qem rs))=true then _ else _
     cases hne:(decide (pt qs2 ab.1=some ab.2) != decide (ab∈qem rs)) with
     | true =>
      refine j9 ?_
      rw [if_pos rfl]
      ext
      exact ⟨by rw [ya];exact qk (by omega),rfl,us++[t],by rw [List.map_append];rfl,by rw [List.length_append];simp;omega,hU.snoc ⟨z1,z3⟩⟩
     | false =>
      refine yq ?_
      rw [if_neg (by decide),List.append_nil]
      exact ⟨rfl,us,rfl,by omega,hU⟩
    ·obtain ⟨rfl,us,rfl,hul,hU⟩:=hp'
     have e:(ts.map V.ref).length=(zD ss ns ss.length).length:=by rw [ya,hAl.len]
     rw [e,List.take_length] at hU
     rw [ya] at hul
     refine ⟨by rw [ya];exact Nat.le_of_lt (qk (by omega)),fun g hg=>?_⟩
     have s7:=qX s06 (o:=.lst (us.map V.ref)) hg
     exact hfin g us _ s7 (s06.free hg) qc (by omega) (hU.mono fun t ab z=>⟨s05.free z.1,(fun e=>by rw [e,hg] at z;cases z.2),by rw [qh (fun e=>by rw [e,hg] at z;cases z.2)];exact z.2⟩)
theorem stpB_adj {rs:List Str} {a b:Str}:(a,b)∈qem rs↔adjR rs a b:=by
 unfold qem adjR
 rw [List.mem_append,List.mem_map]
 constructor
 ·rintro (h | ⟨q,h,e⟩)
  ·obtain ⟨j,hj⟩:=yf h
   exact ⟨j,.inl (stp_at.mp hj)⟩
  ·obtain ⟨j,hj⟩:=yf h
   cases e
   exact ⟨j,.inr (stp_at.mp hj)⟩
 ·rintro ⟨j,⟨h1,h2⟩ | ⟨h1,h2⟩⟩
  ·exact .inl (ye (qdy h1 h2))
  ·exact .inr ⟨(b,a),ye (qdy h1 h2),rfl⟩
theorem ct_turn {ss:List Str} {tps qs:List (Str×Str)} {rs:List Str} (hn:(qi qs).Nodup) (nd:rs.Nodup) (h2:2≤rs.length) (hg:gbt tps qs rs=true) (hf:frB qs rs=true):TurnR (pt qs) rs:=by
 have hgo:=(qbs hn).mp hg
 have ok:∀ {s t:Str},okE qs s t=true→pt qs s=none∨pt qs s=some t:=fun h=>by unfold okE at h;exact yk h
 unfold frB at hf
 obtain ⟨f1,f2⟩:=(Bool.and_eq_true _ _).mp hf
 have gd:∀ {i:Nat} {s:Str},rs[i]?=some s→rs.getD i (qH .non)=s:=fun e=>by rw [List.getD_eq_getElem?_getD,e];rfl
 refine ⟨nd,h2,fun a b e=>(qdx hn).mp e,fun j r s t hr hs ht=>?_,fun s t hs ht=>?_,fun s t hs ht=>?_⟩
 ·have:=(hgo (j + 1) s t hs ht).2 r (by omega) (by rw [Nat.add_sub_cancel];exact hr)
  constructor
  ·exact fun h1 h3=>this (by rw [decide_eq_true h1,decide_eq_true h3])
  ·intro h3
   exact Classical.byContradiction fun h1=>this (by rw [yl h1,yl h3])
 ·rw [gd hs,gd ht] at f1
  exact ok f1
 ·rw [gd hs,gd ht] at f2
  exact ok f2
theorem flT_flip {dps qs:List (Str×Str)} {rs:List Str} (h:TurnR (pt qs) rs) {a b:Str}:(a,b)∈flT dps qs rs↔(a,b)∈dps∧flipR (pt qs) rs a b:=by
 unfold flT
 rw [yp,h.xor]
 refine and_congr_right fun _=>?_
 show (decide (pt qs a=some b) != decide ((a,b)∈qem rs))=true↔_
 by_cases h1:pt qs a=some b<;>by_cases h2:(a,b)∈qem rs
 ·rw [decide_eq_true h1,decide_eq_true h2]
  exact ⟨(fun z=>by cases z),fun z=>absurd ⟨fun _=>stpB_adj.mp h2,fun _=>h1⟩ z⟩
 ·rw [decide_eq_true h1,yl h2]
  exact ⟨fun _ z=>h2 (stpB_adj.mpr (z.mp h1)),fun _=>rfl⟩
 ·rw [yl h1,decide_eq_true h2]
  exact ⟨fun _ z=>h1 (z.mpr (stpB_adj.mp h2)),fun _=>rfl⟩
 ·rw [yl h1,yl h2]
  exact ⟨(fun z=>by cases z),fun z=>absurd ⟨fun y=>absurd y h1,fun y=>absurd (stpB_adj.mpr y) h2⟩ z⟩
def zX (ss:List Str) (g:Str→Option Str) (i:Nat):List (Str×Str):=((ss.drop (i + 1)).filter fun t=>decide (g (ss.getD i "")=some t)).map fun t=>(ss.getD i "",t)
def rsG (ss:List Str) (g:Str→Option Str) (k:Nat):List (Str×Str):=(List.range k).flatMap (zX ss g)
structure PF (tps:List (Str×Str)) (g:Str→Option Str):Prop where
 sym:∀ a b,g a=some b→g b=some a
 tie:∀ a b,g a=some b→(a,b)∈tps∨(b,a)∈tps
theorem PF.inn {ss:List Str} {tps:List (Str×Str)} {g:Str→Option Str} (h:PF tps g) (hT:DT ss tps) {a b:Str} (e:g a=some b):a∈ss∧b∈ss∧a≠b:=by
 rcases h.tie a b e with z | z
 ·exact hT.ok _ z
 ·obtain ⟨x,y,n⟩:=hT.ok _ z
  exact ⟨y,x,Ne.symm n⟩
theorem rs_dueG {ss:List Str} {ns:List Nat} {tps:List (Str×Str)} {g:Str→Option Str} {c:Str×Str→Bool} (hO:NOk ss) (hA:Adj ss ns tps) (hc:∀ s o,c (s,o)=decide (g s=some o)) (hok:∀ s o,g s=some o→(s,o)∈tps∨(o,s)∈tps):(zD ss ns ss.length).filter c=rsG ss g ss.length:=by
 unfold zD rsG
 rw [List.filter_flatMap]
 have key:∀ i∈List.range ss.length,(qfy ss ns i).filter c=zX ss g i:=fun i hi=>by
  have hi':=List.mem_range.mp hi
  obtain ⟨s,hs⟩:∃ s,ss[i]?=some s:=⟨_,yb hi'⟩
  have hg:ss.getD i ""=s:=by rw [List.getD_eq_getElem?_getD,hs];rfl
  unfold qfy zX
  rw [hg,qbH hO.nd,List.filter_map,List.filter_filter,List.filter_filter,← fil_drop hO.nd]
  congr 1
  apply List.filter_congr
  intro o ho
  show (c (s,o)&&decide (i < ss.idxOf o)&&(ns.getD i 0).testBit (ss.idxOf o))=_
  rw [hc]
  by_cases hp:g s=some o
  ·have hb:(ns.getD i 0).testBit (ss.idxOf o)=true:=by
    have hl:=List.idxOf_lt_length_of_mem ho
    have go:ss[ss.idxOf o]?=some o:=by rw [yb hl,List.getElem_idxOf]
    rw [hA i _ s o hs go]
    exact hok _ _ hp
   rw [hb,decide_eq_true hp]
   simp
  ·rw [yl hp]
   simp
 have:∀ l:List Nat,(∀ i∈l,(qfy ss ns i).filter c=zX ss g i)→(l.flatMap fun i=>(qfy ss ns i).filter c)=l.flatMap (zX ss g):=fun l=>by
  induction l with
  | nil=>intro _;rfl
  | cons a l ih=>intro h;rw [List.flatMap_cons,List.flatMap_cons,h a List.mem_cons_self,ih fun i hi=>h i (List.mem_cons_of_mem _ hi)]
 exact this _ key
theorem qaZ {ss:List Str} {g:Str→Option Str} {i:Nat} {q:Str×Str} (hi:i < ss.length) (h:q∈zX ss g i):ss[i]?=some q.1∧g q.1=some q.2∧∃ j,i < j∧ss[j]?=some q.2:=by
 obtain ⟨s,hs⟩:∃ s,ss[i]?=some s:=⟨_,yb hi⟩
 have hg:ss.getD i ""=s:=by rw [List.getD_eq_getElem?_getD,hs];rfl
 unfold zX at h
 rw [hg] at h
 obtain ⟨t,ht,rfl⟩:=List.mem_map.mp h
 obtain ⟨h1,h2⟩:=yp.mp ht
 obtain ⟨j,hj⟩:=yf h1
 rw [List.getElem?_drop] at hj
 exact ⟨hs,yk h2,i + 1 + j,by omega,hj⟩
theorem mem_rsG {ss:List Str} {g:Str→Option Str} {a b:Str}:(a,b)∈rsG ss g ss.length↔g a=some b∧∃ i j:Nat,i < j∧ss[i]?=some a∧ss[j]?=some b:=by
 unfold rsG
 rw [List.mem_flatMap]
 constructor
 ·rintro ⟨i,hi,h⟩
  obtain ⟨h1,h2,j,hj,h3⟩:=qaZ (List.mem_range.mp hi) h
  exact ⟨h2,i,j,hj,h1,h3⟩
 ·rintro ⟨h,i,j,hij,h1,h2⟩
  refine ⟨i,List.mem_range.mpr (yc.mp h1).1,?_⟩
  have hg:ss.getD i ""=a:=by rw [List.getD_eq_getElem?_getD,h1];rfl
  unfold zX
  rw [hg]
  refine List.mem_map.mpr ⟨b,yp.mpr ⟨?_,decide_eq_true h⟩,rfl⟩
  refine ye (i:=j - (i + 1)) ?_
  rw [List.getElem?_drop,show i + 1 + (j - (i + 1))=j by omega]
  exact h2
theorem qbK:∀ {qs:List (Str×Str)},(∀ q∈qs,q.1≠q.2)→qs.Pairwise (fun q r=>q.1≠r.1∧q.1≠r.2∧q.2≠r.1∧q.2≠r.2)→(qi qs).Nodup
 | [],_,_=>List.nodup_nil
 | q::r,h,hp=>by
  obtain ⟨p1,p2⟩:=List.pairwise_cons.mp hp
  have ih:=qbK (fun x hx=>h x (List.mem_cons_of_mem _ hx)) p2
  show (q.1::q.2::qi r).Nodup
  have out:∀ n∈qi r,q.1≠n∧q.2≠n:=fun n hn=>by
   obtain ⟨x,hx,hxn⟩:=List.mem_flatMap.mp hn
   obtain ⟨a,b,c,d⟩:=p1 x hx
   simp only [List.mem_cons,List.not_mem_nil,or_false] at hxn
   rcases hxn with rfl | rfl
   ·exact ⟨a,c⟩
   ·exact ⟨b,d⟩
  refine yo.mpr ⟨fun z=>?_,yo.mpr ⟨fun z=>(out _ z).2 rfl,ih⟩⟩
  rcases List.mem_cons.mp z with z | z
  ·exact h q List.mem_cons_self z
  ·exact (out _ z).1 rfl
theorem qfi {ss:List Str} {tps:List (Str×Str)} {g:Str→Option Str} (hO:NOk ss) (hT:DT ss tps) (h:PF tps g):(qi (rsG ss g ss.length)).Nodup:=by
 refine qbK (fun q hq=>?_) ?_
 ·exact (h.inn hT (mem_rsG.mp hq).1).2.2
 ·unfold rsG
  refine List.pairwise_flatMap.mpr ⟨fun i hi=>?_,?_⟩
  ·have hi':=List.mem_range.mp hi
   unfold zX
   refine List.pairwise_map.mpr ?_
   have nd:((ss.drop (i + 1)).filter fun t=>decide (g (ss.getD i "")=some t)).Nodup:=(hO.nd.sublist (List.drop_sublist _ _)).filter _
   refine List.Pairwise.imp_of_mem (fun {a b} ha hb hab=>?_) nd
   have e1:=yk (yp.mp ha).2
   have e2:=yk (yp.mp hb).2
   rw [e1] at e2
   exact absurd (ym e2) hab
  ·refine List.Pairwise.imp_of_mem (fun {i j} hi hj hij q hq r hr=>?_) (List.pairwise_lt_range (n:=ss.length))
   obtain ⟨a1,a2,a,a3,a4⟩:=qaZ (List.mem_range.mp hi) hq
   obtain ⟨b1,b2,b,b3,b4⟩:=qaZ (List.mem_range.mp hj) hr
   refine ⟨fun z=>?_,fun z=>?_,fun z=>?_,fun z=>?_⟩
   ·rw [z] at a1;have:=qJ hO.nd a1 b1;omega
   ·rw [z] at a1;have:=qJ hO.nd a1 b4;omega
   ·have:=h.sym _ _ a2
    rw [z,b2] at this
    rw [← ym this] at a1
    have:=qJ hO.nd a1 b4
    omega
   ·have e1:=h.sym _ _ a2
    have e2:=h.sym _ _ b2
    rw [z,e2] at e1
    rw [← ym e1] at a1
    have:=qJ hO.nd a1 b1
    omega
theorem qgh:∀ {qs:List (Str×Str)},(qi qs).Nodup→∀ {a b:Str},(a,b)∈qs∨(b,a)∈qs→pt qs a=some b
 | [],_,a,b,m=>by rcases m with z | z<;>cases z
 | q::r,h,a,b,m=>by
  have hnd:(q.1::q.2::qi r).Nodup:=h
  obtain ⟨d1,d2⟩:=yo.mp hnd
  obtain ⟨d3,d4⟩:=yo.mp d2
  have inr:∀ {x y:Str},(x,y)∈r→x∈qi r∧y∈qi r:=fun hxy=>⟨List.mem_flatMap.mpr ⟨_,hxy,by simp⟩,List.mem_flatMap.mpr ⟨_,hxy,by simp⟩⟩
  unfold pt
  have later:(a,b)∈r∨(b,a)∈r→(if q.1=a then some q.2 else if q.2=a then some q.1 else pt r a)=some b:=fun hm=>by
   have ha:a∈qi r:=hm.elim (fun z=>(inr z).1) fun z=>(inr z).2
   rw [if_neg (fun z=>d1 (by rw [z];exact List.mem_cons_of_mem _ ha)),if_neg (fun z=>d3 (by rw [z];exact ha))]
   exact qgh d4 hm
  rcases m with z | z
  ·rcases List.mem_cons.mp z with z | z
   ·subst z;rw [if_pos rfl]
   ·exact later (.inl z)
  ·rcases List.mem_cons.mp z with z | z
   ·subst z
    have hne:b≠a:=fun e=>d1 (by show b∈a::_;rw [e];exact List.mem_cons_self)
    rw [if_neg hne,if_pos rfl]
   ·exact later (.inr z)
theorem qen {qs:List (Str×Str)} (h:(qi qs).Nodup) {a b:Str}:pt qs a=some b↔(a,b)∈qs∨(b,a)∈qs:=⟨qdv,qgh h⟩
theorem qbZ {x y:Option Str} (h:∀ b,x=some b↔y=some b):x=y:=by
 cases x with
 | none=>cases y with
  | none=>rfl
  | some b=>exact absurd ((h b).mpr rfl) (fun z=>by cases z)
 | some a=>exact ((h a).mp rfl).symm
theorem qfj {ss:List Str} {tps:List (Str×Str)} {g:Str→Option Str} (hO:NOk ss) (hT:DT ss tps) (h:PF tps g):pt (rsG ss g ss.length)=g:=by
 funext a
 refine qbZ fun b=>?_
 rw [qen (qfi hO hT h),mem_rsG,mem_rsG]
 constructor
 ·rintro (⟨e,_⟩ | ⟨e,_⟩)
  ·exact e
  ·exact h.sym _ _ e
 ·intro e
  obtain ⟨m1,m2,hne⟩:=h.inn hT e
  obtain ⟨i,hi⟩:=yf m1
  obtain ⟨j,hj⟩:=yf m2
  rcases Nat.lt_trichotomy i j with z | z | z
  ·exact .inl ⟨e,i,j,z,hi,hj⟩
  ·rw [z,hj] at hi;exact absurd (ym hi).symm hne
  ·exact .inr ⟨h.sym _ _ e,j,i,z,hj,hi⟩
theorem qfk {ss:List Str} {tps:List (Str×Str)} {g:Str→Option Str} (hO:NOk ss) (hT:DT ss tps) (h:PF tps g):DP tps (rsG ss g ss.length):=by
 have nd:=qfi hO hT h
 refine ⟨nd,fun q hq=>h.tie _ _ (mem_rsG.mp hq).1,?_⟩
 have:=zE nd (m:=ss) fun x hx=>by
  obtain ⟨q,hq,hqx⟩:=List.mem_flatMap.mp hx
  obtain ⟨m1,m2,_⟩:=h.inn hT (mem_rsG.mp hq).1
  simp only [List.mem_cons,List.not_mem_nil,or_false] at hqx
  rcases hqx with rfl | rfl
  ·exact m1
  ·exact m2
 rw [zU] at this
 have:=hO.few
 omega
theorem qbu {qs:List (Str×Str)} (h:(qi qs).Nodup):(qi qs.reverse).Nodup:=((List.reverse_perm qs).flatMap_right _).nodup_iff.mpr h
theorem qfl {qs:List (Str×Str)} (h:(qi qs).Nodup):pt qs.reverse=pt qs:=by
 funext a
 refine qbZ fun b=>?_
 rw [qen h,qen (qbu h),List.mem_reverse,List.mem_reverse]
theorem DP.rev {tps qs:List (Str×Str)} (h:DP tps qs):DP tps qs.reverse:=⟨qbu h.nd,fun q hq=>h.ok q (List.mem_reverse.mp hq),by rw [List.length_reverse];exact h.few⟩
theorem DP.pf {tps qs:List (Str×Str)} (h:DP tps qs):PF tps (pt qs):=⟨fun a b e=>(qdx h.nd).mp e,fun a b e=>by
 rcases qdv e with z | z
 ·exact h.ok _ z
 ·exact (h.ok _ z).symm⟩
theorem rev_at {rs:List Str} {j:Nat} {s:Str}:rs.reverse[j]?=some s↔j < rs.length∧rs[rs.length - 1 - j]?=some s:=by
 constructor
 ·intro h
  have hl:=(yc.mp h).1
  rw [List.length_reverse] at hl
  rw [List.getElem?_reverse hl] at h
  exact ⟨hl,h⟩
 ·rintro ⟨hl,h⟩
  rw [List.getElem?_reverse hl]
  exact h
theorem adjR.rev {rs:List Str} {a b:Str} (h:adjR rs a b):adjR rs.reverse a b:=by
 obtain ⟨j,z⟩:=h
 have key:∀ {a b:Str},rs[j]?=some a→rs[j + 1]?=some b→rs.reverse[rs.length - 2 - j]?=some b∧rs.reverse[rs.length - 2 - j + 1]?=some a:=fun h1 h2=>by
  have hl:=(yc.mp h2).1
  exact ⟨rev_at.mpr ⟨by omega,by rw [show rs.length - 1 - (rs.length - 2 - j)=j + 1 by omega];exact h2⟩,rev_at.mpr ⟨by omega,by rw [show rs.length - 1 - (rs.length - 2 - j + 1)=j by omega];exact h1⟩⟩
 rcases z with ⟨h1,h2⟩ | ⟨h1,h2⟩
 ·exact ⟨_,.inr (key h1 h2)⟩
 ·exact ⟨_,.inl (key h1 h2)⟩
theorem adjR.rev_iff {rs:List Str} {a b:Str}:adjR rs.reverse a b↔adjR rs a b:=⟨fun h=>by have:=h.rev;rwa [List.reverse_reverse] at this,adjR.rev⟩
theorem TurnR.rev {f:Str→Option Str} {rs:List Str} (h:TurnR f rs):TurnR f rs.reverse:=by
 have h2:=h.two
 refine ⟨(List.reverse_perm rs).nodup_iff.mpr h.nd,by rw [List.length_reverse];exact h2,h.sym,fun j r s t hr hs ht=>?_,fun s t hs ht=>?_,fun s t hs ht=>?_⟩
 ·obtain ⟨l1,e1⟩:=rev_at.mp hr
  obtain ⟨l2,e2⟩:=rev_at.mp hs
  obtain ⟨l3,e3⟩:=rev_at.mp ht
  have:=h.alt (rs.length - 1 - (j + 2)) t s r e3 (by rw [show rs.length - 1 - (j + 2) + 1=rs.length - 1 - (j + 1) by omega];exact e2) (by rw [show rs.length - 1 - (j + 2) + 2=rs.length - 1 - j by omega];exact e1)
  constructor
  ·exact fun z y=>this.mp y z
  ·exact fun z=>Classical.byContradiction fun y=>z (this.mpr y)
 ·obtain ⟨l1,e1⟩:=rev_at.mp hs
  obtain ⟨l2,e2⟩:=rev_at.mp ht
  exact h.lst s t (by simpa using e1) (by rw [show rs.length - 2=rs.length - 1 - 1 by omega];exact e2)
 ·rw [List.length_reverse] at hs ht
  obtain ⟨l1,e1⟩:=rev_at.mp hs
  obtain ⟨l2,e2⟩:=rev_at.mp ht
  exact h.fst s t (by rw [show (0:Nat)=rs.length - 1 - (rs.length - 1) by omega];exact e1) (by rw [show (1:Nat)=rs.length - 1 - (rs.length - 2) by omega];exact e2)
theorem flip_fun {f:Str→Option Str} {rs:List Str} (h:TurnR f rs):∃ g:Str→Option Str,∀ a b,g a=some b↔flipR f rs a b:=by
 refine ⟨fun a=>@dite _ (∃ b,flipR f rs a b) (Classical.propDecidable _) (fun z=>some z.choose) fun _=>none,fun a b=>?_⟩
 dsimp only
 split
 ·rename_i z
  exact ⟨fun e=>by rw [← ym e];exact z.choose_spec,fun e=>by rw [flipR.one h e z.choose_spec]⟩
 ·rename_i z
  exact ⟨(fun e=>by cases e),fun e=>absurd ⟨b,e⟩ z⟩
theorem qeo {tps:List (Str×Str)} {f g:Str→Option Str} {rs:List Str} (h:TurnR f rs) (hg:∀ a b,g a=some b↔flipR f rs a b) (hf:PF tps f) (hr:∀ a b,adjR rs a b→(a,b)∈tps∨(b,a)∈tps):PF tps g:=
 ⟨fun a b e=>(hg _ _).mpr (((hg _ _).mp e).symm h),fun a b e=>by
  rcases (hg _ _).mp e with ⟨_,z⟩ | ⟨z,_⟩
  ·exact hf.tie _ _ z
  ·exact hr _ _ z⟩
theorem flT_due {ss:List Str} {ns:List Nat} {tps qs:List (Str×Str)} {g:Str→Option Str} {rs:List Str} (hO:NOk ss) (hA:Adj ss ns tps) (h:TurnR (pt qs) rs) (hg:∀ a b,g a=some b↔flipR (pt qs) rs a b) (hp:PF tps g):flT (zD ss ns ss.length) qs rs=rsG ss g ss.length:=by
 unfold flT
 refine rs_dueG hO hA (fun s o=>?_) hp.tie
 have:=@flT_flip [(s,o)] qs rs h s o
 unfold flT at this
 rw [yp] at this
 simp only [List.mem_singleton,true_and] at this
 exact Bool.eq_iff_iff.mpr (this.trans ((hg s o).symm.trans decide_eq_true_iff.symm))
abbrev jO:Stmt:=top 45
theorem sc_l_flipped:FnScope ["_law_names_here", "_law_pairs_here", "_law_row", "_law_partners_here", "_law_found", "_law_name", "_law_k"] ["_law_names_here", "_law_pairs_here", "_law_row"] (qe jO):=fS
def qfB:Sp:=fun vs H Q _=>∃ (n d:Addr) (ss:List Str) (kvs:List (Key×V)) (g:Str→Option Str),vs=[.ref n,.ref d]∧H n=some (.lst (ss.map V.str))∧ss.length≤14∧H d=some (.dK kvs)∧(∀ s,zy kvs (.inr s:Key)=(g s).map V.str) ∧
 ∀ (l:Addr) (ls:List Addr) (H':Hp),L2.Same H H'→H l=none→PL H' l ls (rsG ss g ss.length)→ls.length≤196→Q (.ref l) H'
def qho:Sp:=fun vs H Q _=>∃ (n r a:Addr) (ss:List Str) (us:List Addr) (qs:List (Str×Str)) (rs:List Str) (g:Str→Option Str),vs=[.ref n,.ref r,.ref a]∧H n=some (.lst (ss.map V.str))∧ss.length≤14∧PL H r us qs∧(qi qs).Nodup∧qs.length≤30∧H a=some (.lst (rs.map V.str))∧rs.length≤15∧TurnR (pt qs) rs∧(∀ a b,g a=some b↔flipR (pt qs) rs a b) ∧
 ∀ (l:Addr) (ls:List Addr) (H':Hp),L2.Same H H'→H l=none→PL H' l ls (rsG ss g ss.length)→ls.length≤196→Q (.ref l) H'
def Fk (qs:List (Str×Str)) (rs:List Str) (k:Nat) (s b:Str):Prop:=(s∉rs∧pt qs s=some b)∨((∃ j:Nat,j < k∧((rs[j]?=some s∧rs[j + 1]?=some b)∨(rs[j]?=some b∧rs[j + 1]?=some s)))∧pt qs s≠some b)
theorem Fk.flip {qs:List (Str×Str)} {rs:List Str} {k:Nat} {s b:Str} (h:Fk qs rs k s b):flipR (pt qs) rs s b:=h.elim .inl fun z=>.inr ⟨z.1.elim fun j y=>⟨j,y.2⟩,z.2⟩
theorem Fk.mono {qs:List (Str×Str)} {rs:List Str} {k:Nat} {s b:Str} (h:Fk qs rs k s b):Fk qs rs (k + 1) s b:=h.elim .inl fun z=>.inr ⟨z.1.elim fun j y=>⟨j,Nat.lt_succ_of_lt y.1,y.2⟩,z.2⟩
theorem Fk.all {qs:List (Str×Str)} {rs:List Str} {s b:Str}:Fk qs rs (rs.length - 1) s b↔flipR (pt qs) rs s b:=by
 refine ⟨Fk.flip,fun h=>h.elim .inl fun z=>.inr ⟨?_,z.2⟩⟩
 obtain ⟨j,y⟩:=z.1
 refine ⟨j,?_,y⟩
 have:j + 1 < rs.length:=y.elim (fun x=>(yc.mp x.2).1) fun x=>(yc.mp x.2).1
 omega
theorem Fk.put {qs:List (Str×Str)} {rs:List Str} {k:Nat} {u t s b:Str} {g:Str→Option Str} (hT:TurnR (pt qs) rs) (hu:rs[k]?=some u) (ht:rs[k + 1]?=some t) (hne:pt qs u≠some t) (hg:∀ s b,g s=some b↔Fk qs rs k s b) :
  (if s=t then some u else if s=u then some t else g s)=some b↔Fk qs rs (k + 1) s b:=by
 have f1:Fk qs rs (k + 1) t u:=.inr ⟨⟨k,Nat.lt_succ_self k,.inr ⟨hu,ht⟩⟩,fun z=>hne (hT.sym _ _ z)⟩
 have f2:Fk qs rs (k + 1) u t:=.inr ⟨⟨k,Nat.lt_succ_self k,.inl ⟨hu,ht⟩⟩,hne⟩
 by_cases h1:s=t
 ·subst h1
  rw [if_pos rfl]
  exact ⟨fun e=>by rw [← ym e];exact f1,fun e=>by rw [flipR.one hT f1.flip e.flip]⟩
 ·rw [if_neg h1]
  by_cases h2:s=u
  ·subst h2
   rw [if_pos rfl]
   exact ⟨fun e=>by rw [← ym e];exact f2,fun e=>by rw [flipR.one hT f2.flip e.flip]⟩
  ·rw [if_neg h2,hg]
   refine ⟨Fk.mono,fun e=>e.elim .inl fun z=>.inr ⟨?_,z.2⟩⟩
   obtain ⟨j,hj,y⟩:=z.1
   by_cases hk:j=k
   ·subst hk
    rcases y with ⟨y1,y2⟩ | ⟨y1,y2⟩
    ·rw [hu] at y1;exact absurd (ym y1).symm h2
    ·rw [ht] at y2;exact absurd (ym y2).symm h1
   ·exact ⟨j,by omega,y⟩
theorem Fk.skip {qs:List (Str×Str)} {rs:List Str} {k:Nat} {u t s b:Str} (hT:TurnR (pt qs) rs) (hu:rs[k]?=some u) (ht:rs[k + 1]?=some t) (he:pt qs u=some t):Fk qs rs k s b↔Fk qs rs (k + 1) s b:=by
 refine ⟨Fk.mono,fun e=>e.elim .inl fun z=>.inr ⟨?_,z.2⟩⟩
 obtain ⟨j,hj,y⟩:=z.1
 by_cases hk:j=k
 ·subst hk
  rcases y with ⟨y1,y2⟩ | ⟨y1,y2⟩
  ·rw [hu] at y1;rw [ht] at y2;cases y1;cases y2;exact absurd he z.2
  ·rw [hu] at y1;rw [ht] at y2;cases y1;cases y2;exact absurd (hT.sym _ _ he) z.2
 ·exact ⟨j,by omega,y⟩
theorem qdC:∀ (qs:List (Str×Str)),(prK qs).map (fun kv=>kv.1)=(qi qs).map (fun s=>(.inr s:Key))
 | []=>rfl
 | q::r=>by
  show (.inr q.1:Key)::(.inr q.2:Key)::(prK r).map _=(.inr q.1:Key)::(.inr q.2:Key)::(qi r).map _
  rw [qdC r]
theorem eq_ptG {H:Hp} {o:Option Str} {t:Str} {Q:VK} (q:Q (.bl (decide (o=some t))) H):qfE K ((o.map V.str).getD .non) (.str t) H Q:=by
 cases o with
 | none=>exact .inl (.inl (.inl ⟨rfl,rfl,q⟩))
 | some u =>
  refine qhf ?_
  rwa [show decide (u=t)=decide (some u=some t) from decide_eq_decide.mpr ⟨congrArg some,ym⟩]
theorem ne_ptG {H:Hp} {o:Option Str} {t:Str} {Q:VK} (q:Q (.bl (!decide (o=some t))) H):qe3 K true ((o.map V.str).getD .non) (.str t) H Q:=by
 refine .inl ⟨by cases o<;>rfl,rfl,?_⟩
 rw [if_pos rfl]
 cases o with
 | none=>exact q
 | some u =>
  have e:eqV (.str u) (.str t)=decide (some u=some t):=by
   by_cases h:u=t
   ·subst h;simp [eqV]
   ·simp [eqV,h]
  show Q (.bl (!eqV (.str u) (.str t))) H
  rw [e]
  exact q
theorem ok_rsG (F:Fun K "_law_rising" "_law_rising" zf f fd) (T:Txt K mg cc cw):FnOk P w K mg base CX0 1 f fd ["_law_names_here", "_law_partners_here"] qfB:=by
 refine F.ok sc_l_rising (fun vs H Q E h=>?_) fun cdv A outer s H vs Q E hr h=>?_
 ·obtain ⟨n,d,ss,kvs,g,rfl,_⟩:=h;rfl
 ·obtain ⟨n,d,ss,kvs,g,rfl,hn,hsl,hd,hval,q⟩:=h
  have hu:=qah hr
  refine ⟨_,(qb (qu (i:=2) sc_l_rising.nd rfl (Or.inl rfl) (jv qd))
 (qb (jm PassesOwn.never rfl (jw rfl T.b_range (qa (qm (jX (K:=K) rfl) rfl T.b_len boot_len (qa (pv 0) qd)) qd)) (qw (i:=3) sc_l_rising.nd rfl (Or.inl rfl))
 (qf (jm PassesOwn.never rfl (jK (K:=K) rfl (jS (qes (K:=K) rfl) (pv 0) (jH (qB (jY (K:=K) rfl) (pv 3) qg)) zL)) (qw (i:=4) sc_l_rising.nd rfl (Or.inl rfl))
 (qf (qL (qv (qaz (K:=K) rfl hu) (zt (qe6 hu) (pv 1) (qx (qy (K:=K) rfl hu) (pv 0) (pv 3) (fun _ _=>rfl)) ⟨rfl,rfl,rfl,rfl⟩) (pv 4) (qA _)) (qf (qU (qdI (K:=K) rfl PySem.F.plainAttrs_list PySem.F.slot_list_append PySem.F.type_list_append jf (pv 2) (qa (jJ (qa (qx (qy (K:=K) rfl hu) (pv 0) (pv 3) (fun _ _=>rfl)) (qa (pv 4) qd))) qd)))) qq)))))
 (qf (qp (pv 2))))),?_⟩
  ext
  refine ⟨by show 0≤sizeLine;decide,fun l hl=>?_⟩
  have s1:=qX (Sr H) (o:=.lst []) hl
  have el:upd H l (.lst []) l=some (.lst (([]:List Addr).map V.ref)):=qc
  generalize upd H l (.lst [])=H1 at s1 el
  ext
  refine qaU (s1 _ _ hn) ?_
  rw [ya]
  ext
  refine ⟨(ss.length:Int),rfl,by omega,by omega,?_⟩
  rw [Int.toNat_natCast]
  refine jW (lo:=0) (n:=ss.length) (fun i σ J=>L2.Same H J∧(∃ ls,PL J l ls (rsG ss g i)∧ls.length≤14 * i)∧∃ y3 y4,σ=[some (.ref n),some (.ref d),some (.ref l),y3,y4]) ⟨s1,⟨[],⟨el,.nil⟩,yh _⟩,_,_,rfl⟩ (fun i σ J hi hp=>?_) fun σ J hp=>?_
  ·obtain ⟨sJ,⟨ls,hPL,hll⟩,y3,y4,rfl⟩:=hp
   rw [Int.zero_add]
   have hnJ:=sJ _ _ hn
   obtain ⟨s',hs'⟩:∃ s',ss[i]?=some s':=⟨_,yb hi⟩
   have hg:ss.getD i ""=s':=by rw [List.getD_eq_getElem?_getD,hs'];rfl
   ext
   refine .inl ⟨n,_,rfl,.of hnJ,fun r hr0=>?_⟩
   have ec:qcz (ss.map V.str) (some ((i:Int) + 1)) none=(ss.drop (i + 1)).map V.str:=by
    have:=qaM (ss.map V.str) (i + 1)
    rw [show ((i + 1:Nat):Int)=(i:Int) + 1 by omega] at this
    rw [this,List.map_drop]
   rw [ec]
   have s2:=qX (Sr J) (o:=.lst ((ss.drop (i + 1)).map V.str)) hr0
   have er:upd J r (.lst ((ss.drop (i + 1)).map V.str)) r=some (.lst ((ss.drop (i + 1)).map V.str)):=qc
   have hrl:r≠l:=fun z=>by rw [z,hPL.1] at hr0;cases hr0
   generalize upd J r (.lst ((ss.drop (i + 1)).map V.str))=J2 at s2 er
   have hPL2:=hPL.same s2
   have estep:rsG ss g (i + 1)=rsG ss g i++zX ss g i:=by
    unfold rsG
    rw [List.range_succ,List.flatMap_append]
    simp
   have hdl:(ss.drop (i + 1)).length≤14:=by rw [List.length_drop];omega
   have erow:zX ss g i=((ss.drop (i + 1)).filter fun t=>decide (g s'=some t)).map fun t=>(s',t):=by unfold zX;rw [hg]
   generalize ss.drop (i + 1)=ds at er hdl erow
   refine .inl ⟨⟨_,.of er⟩,jq (xs:=ds.map V.str) (fun k σ G=>L2.Same H G∧G r=some (.lst (ds.map V.str))∧(∃ ls,PL G l ls (rsG ss g i++((ds.take k).filter fun t=>decide (g s'=some t)).map fun t=>(s',t))∧ls.length≤14 * i + k)∧∃ y4,σ=[some (.ref n),some (.ref d),some (.ref l),some (.int (i:Int)),y4]) ⟨sJ.trans s2,er,⟨ls,by simpa using hPL2,by omega⟩,_,rfl⟩ (fun k σ G _ hp=>.of hp.2.1) (fun k y σ G hy hp=>?_) fun σ G hp=>?_⟩
   ·obtain ⟨sG,erG,⟨ls',hPG,hlG⟩,y4',rfl⟩:=hp
    rw [yd] at hy
    obtain ⟨t,ht,rfl⟩:=yn.mp hy
    have hk:k < ds.length:=(yc.mp ht).1
    have hdG:=sG _ _ hd
    have hnG:=sG _ _ hn
    have es2:((ds.take (k + 1)).filter fun t=>decide (g s'=some t))=((ds.take k).filter fun t=>decide (g s'=some t))++(if g s'=some t then [t] else []):=by
     rw [List.take_add_one,ht,List.filter_append]
     show _++[t].filter _=_
     rw [List.filter_cons]
     simp only [decide_eq_true_eq,List.filter_nil]
    rw [es2]
    ext
    refine qa2 ?_
    ext
    refine ⟨d,rfl,.inl ⟨_,.inl hdG⟩,?_⟩
    ext
    refine .inl (zk hnG (v:=.str s') (qt (by rw [yd,hs'];rfl)) ?_)
    refine ⟨_,DGet.k (k:=Sum.inr s') hdG,?_⟩
    rw [hval]
    ext
    refine eq_ptG ?_
    ext
    refine qI (fun ho=>?_) (fun ho=>?_)
    ·rw [if_pos (yk ho)]
     ext
     refine ⟨.inl ⟨rfl,_,.of hPG.1⟩,?_⟩
     ext
     refine .inl (zk hnG (v:=.str s') (qt (by rw [yd,hs'];rfl)) ?_)
     ext
     refine ⟨by show 2≤sizeLine;decide,fun t1 ht1=>?_⟩
     have s3:=qX (Sr G) (o:=.tup [.str s',.str t]) ht1
     have e3:upd G t1 (.tup [.str s',.str t]) t1=some (.tup [.str s',.str t]):=qc
     generalize upd G t1 (.tup [.str s',.str t])=G3 at s3 e3
     have hP3:=hPG.same s3
     ext
     refine ⟨l,_,_,rfl,rfl,hP3.1,by rw [ya];exact qk (by omega),?_⟩
     have ntl:∀ {c:Addr} {q:Str×Str},G3 c=some (.tup [.str q.1,.str q.2])→c≠l:=fun z e=>by rw [e,hP3.1] at z;cases z
     refine ⟨qbG (sG.trans s3) hl,by rw [qh hrl];exact s3 _ _ erG,⟨ls'++[t1],⟨by rw [qc,List.map_append];rfl,?_⟩,by rw [List.length_append];simp only [List.length_cons,List.length_nil];omega⟩,_,rfl⟩
     rw [List.map_append,← List.append_assoc]
     exact All2.snoc (hP3.2.mono fun _ _ z=>by rw [qh (ntl z)];exact z) (by rw [qh (ntl (q:=(s',t)) e3)];exact e3)
    ·rw [if_neg (fun e=>ho (decide_eq_true e)),List.append_nil]
     exact ⟨sG,erG,⟨ls',hPG,by omega⟩,_,rfl⟩
   ·obtain ⟨sG,erG,⟨ls',hPG,hlG⟩,y4',rfl⟩:=hp
    rw [show (ds.map V.str).length=ds.length from ya ..,List.take_length,← erow,← estep] at hPG
    rw [show (ds.map V.str).length=ds.length from ya ..] at hlG
    exact ⟨sG,⟨ls',hPG,by omega⟩,_,_,rfl⟩
  ·obtain ⟨sJ,⟨ls,hPL,hll⟩,y3,y4,rfl⟩:=hp
   ext
   exact q l ls J sJ hl hPL (by omega)
theorem ok_fp (F:Fun K "_law_flipped" "_law_flipped" jO f fd) (T:Txt K mg cc cw) (D_l_partners:DefOk P w K mg base CX0 1 "_law_partners" ["_law_pairs_here"] qel) (D_l_rising:DefOk P w K mg base CX0 1 "_law_rising" ["_law_names_here", "_law_partners_here"] qfB):FnOk P w K mg base CX0 2 f fd ["_law_names_here", "_law_pairs_here", "_law_row"] qho:=by
 refine F.ok sc_l_flipped (fun vs H Q E h=>?_) fun cdv A outer s H vs Q E hr h=>?_
 ·obtain ⟨n,r,a,ss,us,qs,rs,g,rfl,_⟩:=h;rfl
 ·obtain ⟨n,r,a,ss,us,qs,rs,g,rfl,hn,hsl,hP,hnd,hql,ha,hrl,hT,hg,q⟩:=h
  have hu:=qah hr
  refine ⟨_,(qb (qu (i:=3) sc_l_flipped.nd rfl (Or.inl rfl) (qr D_l_partners (hmR hr) qz (qa (pv 1) qd)))
 (qb (qu (i:=4) sc_l_flipped.nd rfl (Or.inl rfl) zr)
 (qb (jm PassesOwn.never rfl (pi_dct (pv 3)) (qw (i:=5) sc_l_flipped.nd rfl (Or.inl rfl))
 (qf (qL (qv (jT (K:=K) rfl hu) (pv 5) (pv 2) (by with_unfolding_all rfl)) (qf (jG (qx (qy (K:=K) rfl hu) (pv 3) (pv 5) (fun _ _=>rfl)) (jV (pv 4) (pv 5) (jZ hu)))) qq)))
 (qb (jm PassesOwn.never rfl (jw rfl T.b_range (qa (qB qbx (qm (jX (K:=K) rfl) rfl T.b_len boot_len (qa (pv 2) qd)) qg) qd)) (qw (i:=6) sc_l_flipped.nd rfl (Or.inl rfl))
 (qf (qL (qv (qaK (K:=K) rfl hu) (zt (qe6 hu) (pv 3) (qx (qy (K:=K) rfl hu) (pv 2) (pv 6) (fun _ _=>rfl)) ⟨rfl,rfl,rfl,rfl⟩) (qx (qy (K:=K) rfl hu) (pv 2) (qB (jY (K:=K) rfl) (pv 6) qg) (fun _ _=>rfl)) (qA _)) (qb (jG (qx (qy (K:=K) rfl hu) (pv 2) (qB (jY (K:=K) rfl) (pv 6) qg) (fun _ _=>rfl)) (jV (pv 4) (qx (qy (K:=K) rfl hu) (pv 2) (pv 6) (fun _ _=>rfl)) (jZ hu)))
 (qf (jG (qx (qy (K:=K) rfl hu) (pv 2) (pv 6) (fun _ _=>rfl)) (jV (pv 4) (qx (qy (K:=K) rfl hu) (pv 2) (qB (jY (K:=K) rfl) (pv 6) qg) (fun _ _=>rfl)) (jZ hu))))) qq)))
 (qf (qp (qr D_l_rising (hmR hr) qz (qa (pv 0) (qa (pv 4) qd))))))))),?_⟩
  ext
  refine ⟨r,us,qs,rfl,hP,hnd,by omega,fun d H1 s1 hd0 hd=>?_⟩
  ext
  intro fo hfo
  have s2:=qX s1 (o:=.dK []) hfo
  have hd2:=qX (Sr H1) (o:=.dK []) hfo _ _ hd
  have hfd:fo≠d:=fun z=>by rw [z,hd] at hfo;cases hfo
  have hfo0:=s1.free hfo
  have ef:upd H1 fo (.dK []) fo=some (.dK []):=qc
  generalize upd H1 fo (.dK [])=H2 at s2 hd2 ef
  ext
  refine viDct ?_
  ext
  refine ⟨d,_,rfl,hd2,fun ob=>?_⟩
  have s3:L2.Same H (upd H2 d (.frz ob (.dK (prK qs)))):=qbG s2 hd0
  have ed:upd H2 d (.frz ob (.dK (prK qs))) d=some (.frz ob (.dK (prK qs))):=qc
  have ef3:upd H2 d (.frz ob (.dK (prK qs))) fo=some (.dK []):=by rw [qh hfd];exact ef
  generalize upd H2 d (.frz ob (.dK (prK qs)))=H3 at s3 ed ef3
  have hkl:(prK qs).length=(qi qs).length:=by rw [qcU,zU]
  have hkey:∀ {i:Nat} {k:Key} {v:V},(prK qs)[i]?=some (k,v)→∃ z,k=.inr z∧(qi qs)[i]?=some z:=fun {i k v} e=>by
   have h1:((prK qs).map (fun kv=>kv.1))[i]?=some k:=by rw [yd,e];rfl
   rw [qdC,yd] at h1
   obtain ⟨z,hz,rfl⟩:=yn.mp h1
   exact ⟨z,rfl,hz⟩
  have hk60:(qi qs).length≤60:=by rw [zU];omega
  refine for_keys (fun i σ J=>L2.Same H J∧J d=some (.frz ob (.dK (prK qs)))∧∃ y5 kvs g',σ=[some (.ref n),some (.ref r),some (.ref a),some (.ref d),some (.ref fo),y5,none]∧J fo=some (.dK kvs)∧kvs.length≤i∧(∀ s,zy kvs (.inr s:Key)=(g' s).map V.str)∧∀ s b,g' s=some b↔(s∈(qi qs).take i∧s∉rs∧pt qs s=some b)) ⟨s3,ed,_,[],fun _=>none,rfl,ef3,yh _,(fun s=>rfl),fun s b=>⟨(fun e=>by cases e),fun e=>by simp at e⟩⟩ (fun i σ J _ hp=>hp.2.1) (fun i k v σ J hkv hp=>?_) fun σ J hp=>?_
  ·obtain ⟨sJ,edJ,y5,kvs,g',rfl,efJ,hkl2,hval,hg'⟩:=hp
   obtain ⟨z,rfl,hz⟩:=hkey hkv
   have hil:i < (qi qs).length:=(yc.mp hz).1
   have htk:(qi qs).take (i + 1)=(qi qs).take i++[z]:=by rw [List.take_add_one,hz];rfl
   obtain ⟨b,hb⟩:∃ b,pt qs z=some b:=by
    cases e:pt qs z with
    | none=>exact absurd (ye hz) (pt_none.mp e)
    | some b=>exact ⟨b,rfl⟩
   ext
   refine qcV (sJ _ _ ha) ?_
   ext
   refine qI (fun ho=>?_) (fun ho=>?_)
   ·have hzr:z∉rs:=by simpa using ho
    ext
    refine .inr ⟨d,.str b,rfl,.inl ⟨prK qs,.inr z,.inr ⟨ob,edJ⟩,rfl,by rw [jz,hb];rfl⟩,?_⟩
    ext
    refine .inr ⟨fo,_,rfl,DPut.k (k:=Sum.inr z) efJ (by rw [sizeLine_eq];omega),?_⟩
    refine ⟨qbG sJ hfo0,by rw [qh (Ne.symm hfd)];exact edJ,_,_,fun s=>if s=z then some b else g' s,rfl,qc,by have:=jy kvs (Sum.inr z:Key) (.str b);omega,fun s=>?_,fun s c=>?_⟩
    ·rw [qbM]
     dsimp only
     by_cases e:s=z
     ·subst e;rw [if_pos rfl,if_pos rfl];rfl
     ·rw [if_neg (fun x=>e (Sum.inr.inj x)),if_neg e,hval]
    ·rw [htk,List.mem_append,List.mem_singleton]
     dsimp only
     by_cases e:s=z
     ·subst e;rw [if_pos rfl]
      exact ⟨fun x=>⟨.inr rfl,hzr,by rw [hb];exact x⟩,fun x=>by rw [← hb];exact x.2.2⟩
     ·rw [if_neg e,hg']
      exact ⟨fun x=>⟨.inl x.1,x.2⟩,fun x=>⟨x.1.resolve_right e,x.2⟩⟩
   ·have hzr:z∈rs:=by simpa using ho
    refine ⟨sJ,edJ,_,kvs,g',rfl,efJ,by omega,hval,fun s c=>?_⟩
    rw [hg',htk,List.mem_append,List.mem_singleton]
    exact ⟨fun x=>⟨.inl x.1,x.2⟩,fun x=>⟨x.1.resolve_right (fun e=>x.2.1 (by rw [e];exact hzr)),x.2⟩⟩
  ·obtain ⟨sJ,edJ,y5,kvs,g',rfl,efJ,hkl2,hval,hg'⟩:=hp
   rw [hkl,List.take_length] at hg'
   have hg1:∀ s b,g' s=some b↔Fk qs rs 0 s b:=fun s b=>by
    rw [hg']
    refine ⟨fun x=>.inl x.2,fun x=>?_⟩
    rcases x with x | ⟨⟨j,hj,_⟩,_⟩
    ·exact ⟨Classical.byContradiction (fun z=>by rw [pt_none.mpr z] at x;cases x.2),x⟩
    ·omega
   have h2:=hT.two
   ext
   refine .inl ⟨_,.inl (SqL.of (sJ _ _ ha)),?_⟩
   ext
   have ej:((rs.map V.str).length:Int) - 1=((rs.length - 1:Nat):Int):=by rw [ya];omega
   rw [ej]
   refine ⟨_,rfl,by omega,by omega,?_⟩
   rw [Int.toNat_natCast]
   have at_:∀ {j:Nat} {n:Str},rs[j]?=some n→(rs.map V.str)[j]?=some (.str n):=fun e=>by rw [yd,e];rfl
   refine jW (lo:=0) (n:=rs.length - 1) (fun i σ J=>L2.Same H J∧J d=some (.frz ob (.dK (prK qs)))∧∃ y5 y6 kvs g',σ=[some (.ref n),some (.ref r),some (.ref a),some (.ref d),some (.ref fo),y5,y6]∧J fo=some (.dK kvs)∧kvs.length≤60 + 2 * i∧(∀ s,zy kvs (.inr s:Key)=(g' s).map V.str)∧∀ s b,g' s=some b↔Fk qs rs i s b) ⟨sJ,edJ,_,_,kvs,g',rfl,efJ,by omega,hval,hg1⟩ (fun i σ J hi hp=>?_) fun σ J hp=>?_
   ·obtain ⟨sJ,edJ,y5,y6,kvs,g',rfl,efJ,hkl2,hval,hg'⟩:=hp
    rw [Int.zero_add]
    obtain ⟨u,hu9⟩:∃ u,rs[i]?=some u:=⟨_,yb (by omega)⟩
    obtain ⟨t,ht9⟩:∃ t,rs[i + 1]?=some t:=⟨_,yb (by omega)⟩
    have haJ:=sJ _ _ ha
    have hut:u≠t:=fun e=>by rw [e] at hu9;have:=zJ hT.nd hu9 ht9;omega
    ext
    refine qa2 ?_
    ext
    refine ⟨d,rfl,.inl ⟨_,.inr ⟨ob,edJ⟩⟩,?_⟩
    ext
    refine .inl (zk haJ (v:=.str u) (qt (at_ hu9)) ?_)
    refine ⟨_,.inl ⟨prK qs,.inr u,.inr ⟨ob,edJ⟩,rfl,rfl⟩,?_⟩
    rw [jz]
    ext
    refine .inl (zk haJ (v:=.str t) (qt (j:=i + 1) (at_ ht9)) ?_)
    refine ne_ptG ?_
    ext
    refine qI (fun ho=>?_) (fun ho=>?_)
    ·have hne:pt qs u≠some t:=by simpa using ho
     ext
     refine .inl (zk haJ (v:=.str t) (qt (j:=i + 1) (at_ ht9)) ?_)
     ext
     refine .inl (zk haJ (v:=.str u) (qt (at_ hu9)) ?_)
     ext
     refine .inr ⟨fo,_,rfl,DPut.k (k:=Sum.inr u) efJ (by rw [sizeLine_eq];omega),?_⟩
     have s4:=qbG sJ (o:=.dK (qas kvs (Sum.inr u) (.str t))) hfo0
     have ed4:upd J fo (.dK (qas kvs (Sum.inr u) (.str t))) d=some (.frz ob (.dK (prK qs))):=by rw [qh (Ne.symm hfd)];exact edJ
     have ef4:upd J fo (.dK (qas kvs (Sum.inr u) (.str t))) fo=some (.dK (qas kvs (Sum.inr u) (.str t))):=qc
     have l4:=jy kvs (Sum.inr u:Key) (.str t)
     generalize upd J fo (.dK (qas kvs (Sum.inr u) (.str t)))=J4 at s4 ed4 ef4
     have ha4:=s4 _ _ ha
     ext
     refine .inl (zk ha4 (v:=.str u) (qt (at_ hu9)) ?_)
     ext
     refine .inl (zk ha4 (v:=.str t) (qt (j:=i + 1) (at_ ht9)) ?_)
     ext
     refine .inr ⟨fo,_,rfl,DPut.k (k:=Sum.inr t) ef4 (by rw [sizeLine_eq];omega),?_⟩
     refine ⟨qbG s4 hfo0,by rw [qh (Ne.symm hfd)];exact ed4,_,_,_,fun s=>if s=t then some u else if s=u then some t else g' s,rfl,qc,by have:=jy (qas kvs (Sum.inr u:Key) (.str t)) (Sum.inr t:Key) (.str u);omega,fun s=>?_,fun s b=>Fk.put hT hu9 ht9 hne hg'⟩
     rw [qbM,qbM]
     dsimp only
     by_cases e:s=t
     ·subst e;rw [if_pos rfl,if_pos rfl];rfl
     ·rw [if_neg (fun x=>e (Sum.inr.inj x)),if_neg e]
      by_cases e:s=u
      ·subst e;rw [if_pos rfl,if_pos rfl];rfl
      ·rw [if_neg (fun x=>e (Sum.inr.inj x)),if_neg e,hval]
    ·have he:pt qs u=some t:=by simpa using ho
     exact ⟨sJ,edJ,_,_,kvs,g',rfl,efJ,by omega,hval,fun s b=>(hg' s b).trans (Fk.skip hT hu9 ht9 he)⟩
   ·obtain ⟨sJ,edJ,y5,y6,kvs,g',rfl,efJ,hkl2,hval,hg'⟩:=hp
    have eg:g'=g:=by
     funext s
     exact qbZ fun b=>(hg' s b).trans (Fk.all.trans (hg s b).symm)
    subst eg
    ext
    exact ⟨n,fo,ss,kvs,g',rfl,sJ _ _ hn,hsl,efJ,hval,fun l ls H' s' hl hPL hll=>q l ls H' (sJ.trans s') (sJ.free hl) hPL hll⟩
theorem TurnR.inner {f:Str→Option Str} {rs:List Str} (h:TurnR f rs) {i:Nat} {s:Str} (h0:0 < i) (h1:i + 1 < rs.length) (hs:rs[i]?=some s):(f s).isSome=true:=by
 obtain ⟨r,hr⟩:∃ r,rs[i - 1]?=some r:=⟨_,yb (by omega)⟩
 obtain ⟨t,ht⟩:∃ t,rs[i + 1]?=some t:=⟨_,yb h1⟩
 have:=h.alt (i - 1) r s t hr (by rw [show i - 1 + 1=i by omega];exact hs) (by rw [show i - 1 + 2=i + 1 by omega];exact ht)
 cases e:f s with
 | some _=>rfl
 | none =>
  rw [e] at this
  have:=this.mpr (fun z=>by cases z)
  cases this
theorem qdD {f g:Str→Option Str} {rs:List Str} (h:TurnR f rs) (hg:∀ a b,g a=some b↔flipR f rs a b) {a t:Str} (hadj:adjR rs a t) (hf:f a=none∨f a=some t) (hg2:g a=none∨g a=some t):(g a).isSome=!(f a).isSome:=by
 rcases hf with z | z
 ·rw [(hg a t).mpr (.inr ⟨hadj,by rw [z];exact fun y=>by cases y⟩),z];rfl
 ·rcases hg2 with y | y
  ·rw [y,z];rfl
  ·exact absurd ⟨fun _=>hadj,fun _=>z⟩ (h.xor.mp ((hg a t).mp y))
theorem qcy {ss:List Str} {tps qs:List (Str×Str)} (hO:NOk ss) (hT:DT ss tps) (hD:DP tps qs):2 * qs.length=(ss.filter fun s=>(pt qs s).isSome).length:=by
 rw [← zU]
 have hm:∀ s,s∈qi qs↔(pt qs s).isSome=true:=fun s=>by
  cases e:pt qs s with
  | none=>exact ⟨fun z=>absurd z (pt_none.mp e),(fun z=>by cases z)⟩
  | some b=>exact ⟨fun _=>rfl,fun _=>Classical.byContradiction fun z=>by rw [pt_none.mpr z] at e;cases e⟩
 have hin:∀ s∈qi qs,s∈ss:=fun s hs=>by
  obtain ⟨b,hb⟩:=Option.isSome_iff_exists.mp ((hm s).mp hs)
  exact (hD.pf.inn hT hb).1
 refine Nat.le_antisymm (zE hD.nd fun s hs=>yp.mpr ⟨hin s hs,(hm s).mp hs⟩) (zE (hO.nd.filter _) fun s hs=>(hm s).mpr (yp.mp hs).2)
theorem qep {f:Str→Option Str} {rs:List Str} (h:TurnR f rs) {a b:Str} (ha:rs[0]?=some a) (hb:rs[rs.length - 1]?=some b):(rs.filter fun s=>(f s).isSome).length + 2=rs.length + (if (f a).isSome then 1 else 0) + (if (f b).isSome then 1 else 0):=by
 have h2:=h.two
 obtain ⟨m,hm⟩:∃ m,rs=a::(m++[b]):=by
  match rs,ha,hb,h2 with
  | x::r,ha,hb,h2 =>
   have hx:x=a:=ym ha
   have hr:r≠[]:=fun z=>by rw [z] at h2;simp at h2
   refine ⟨r.dropLast,?_⟩
   have e:r.getLast hr=b:=by
    have hl:0 < r.length:=List.length_pos_iff.mpr hr
    rw [show (x::r).length - 1=r.length - 1 + 1 by simp;omega,List.getElem?_cons_succ] at hb
    rw [List.getLast_eq_getElem]
    exact (yc.mp hb).2
   rw [hx,← e,List.dropLast_concat_getLast]
 have hml:rs.length=m.length + 2:=by rw [hm];simp
 have hmid:(m.filter fun s=>(f s).isSome)=m:=List.filter_eq_self.mpr fun s hs=>by
  obtain ⟨i,hi⟩:=yf hs
  have hil:=(yc.mp hi).1
  refine h.inner (i:=i + 1) (by omega) (by omega) ?_
  rw [hm,List.getElem?_cons_succ,List.getElem?_append_left hil]
  exact hi
 rw [hml,hm,List.filter_cons,List.filter_append,hmid,List.filter_cons,List.filter_nil]
 cases (f a).isSome<;>cases (f b).isSome<;>simp<;>omega
theorem cnt_split {ss rs:List Str} (hn:ss.Nodup) (hr:rs.Nodup) (hin:∀ s∈rs,s∈ss) (p:Str→Bool):(ss.filter p).length=(rs.filter p).length + (ss.filter fun s=>p s&&!decide (s∈rs)).length:=by
 have e1:(rs.filter p).length=(ss.filter fun s=>p s&&decide (s∈rs)).length:=Nat.le_antisymm
  (zE (hr.filter _) fun s hs=>by
   obtain ⟨a,b⟩:=yp.mp hs
   exact yp.mpr ⟨hin s a,by rw [b,decide_eq_true a];rfl⟩)
  (zE (hn.filter _) fun s hs=>by
   obtain ⟨a,b⟩:=yp.mp hs
   obtain ⟨b1,b2⟩:=(Bool.and_eq_true _ _).mp b
   exact yp.mpr ⟨yk b2,b1⟩)
 rw [e1]
 clear e1 hn hin
 induction ss with
 | nil=>rfl
 | cons x r ih =>
  rw [List.filter_cons,List.filter_cons,List.filter_cons]
  cases p x<;>cases decide (x∈rs)<;>simp<;>omega
theorem turn_len {ss:List Str} {tps qs:List (Str×Str)} {g:Str→Option Str} {rs:List Str} (hO:NOk ss) (hT:DT ss tps) (hD:DP tps qs) (h:TurnR (pt qs) rs) (hg:∀ a b,g a=some b↔flipR (pt qs) rs a b) (hp:PF tps g) (hin:∀ s∈rs,s∈ss) {a b:Str} (ha:rs[0]?=some a) (hb:rs[rs.length - 1]?=some b) :
  (rsG ss g ss.length).length + 1=qs.length + (if (pt qs a).isSome then 0 else 1) + (if (pt qs b).isSome then 0 else 1):=by
 have h2:=h.two
 have c1:=qcy hO hT hD
 have c2:=qcy hO hT (qfk hO hT hp)
 rw [qfj hO hT hp] at c2
 have ag:=h.again hg
 rw [cnt_split hO.nd h.nd hin] at c1 c2
 have r1:=qep h ha hb
 have r2:=qep ag ha hb
 have eo:(ss.filter fun s=>(g s).isSome&&!decide (s∈rs))=ss.filter fun s=>(pt qs s).isSome&&!decide (s∈rs):=List.filter_congr fun s _=>by
  by_cases z:s∈rs
  ·rw [decide_eq_true z];simp
  ·have:g s=pt qs s:=qbZ fun b=>by
    rw [hg]
    exact ⟨fun y=>y.elim (fun x=>x.2) fun x=>absurd x.1.mem.1 z,fun y=>.inl ⟨z,y⟩⟩
   rw [this]
 rw [eo] at c2
 obtain ⟨t,ht⟩:∃ t,rs[1]?=some t:=⟨_,yb (by omega)⟩
 obtain ⟨u,hu⟩:∃ u,rs[rs.length - 2]?=some u:=⟨_,yb (by omega)⟩
 have e1:=qdD h hg ⟨0,.inl ⟨ha,ht⟩⟩ (h.fst a t ha ht) (ag.fst a t ha ht)
 have e2:=qdD h hg (a:=b) (t:=u) ⟨rs.length - 2,.inr ⟨hu,by rw [show rs.length - 2 + 1=rs.length - 1 by omega];exact hb⟩⟩ (h.lst b u hb hu) (ag.lst b u hb hu)
 rw [e1,e2] at r2
 generalize (rs.filter fun s=>(g s).isSome).length=x1 at c2 r2
 generalize (rs.filter fun s=>(pt qs s).isSome).length=x2 at c1 r1
 generalize (ss.filter fun s=>(pt qs s).isSome&&!decide (s∈rs)).length=x3 at c1 c2
 cases e3:(pt qs a).isSome<;>cases e4:(pt qs b).isSome<;>rw [e3,e4] at r1 r2<;>simp at r1 r2 ⊢<;>omega
theorem turn_ct {ss:List Str} {tps qs:List (Str×Str)} {rs:List Str} (hO:NOk ss) (hn:(qi qs).Nodup) (h:TurnR (pt qs) rs) (hr:∀ a b,adjR rs a b→(a,b)∈tps∨(b,a)∈tps) (hin:∀ s∈rs,s∈ss):ctL ss tps qs (rs.map V.str)=true:=by
 have h2:=h.two
 have em:(rs.map V.str).map qH=rs:=zq rs
 have hun:unl ss [] (rs.map V.str)=true:=by
  have go:∀ (l:List Str) (seen:List Str),(∀ s∈l,s∈ss)→(seen++l).Nodup→unl ss seen (l.map V.str)=true:=fun l=>by
   induction l with
   | nil=>intro _ _ _;rfl
   | cons x r ih =>
    intro seen hi hnd
    have hx:x∉seen:=fun z=>(List.nodup_append.mp hnd).2.2 x z x List.mem_cons_self rfl
    rw [List.map_cons,qdz hO (hi x List.mem_cons_self) hx]
    exact ih _ (fun s hs=>hi s (List.mem_cons_of_mem _ hs)) (by rw [List.append_assoc];exact hnd)
  exact go rs [] hin h.nd
 have gd:∀ {i:Nat} {s:Str},rs[i]?=some s→rs.getD i (qH .non)=s:=fun e=>by rw [List.getD_eq_getElem?_getD,e];rfl
 obtain ⟨a,ha⟩:∃ t,rs[0]?=some t:=⟨_,yb (by omega)⟩
 obtain ⟨t,ht⟩:∃ t,rs[1]?=some t:=⟨_,yb (by omega)⟩
 obtain ⟨b,hb⟩:∃ t,rs[rs.length - 1]?=some t:=⟨_,yb (by omega)⟩
 obtain ⟨u,hu⟩:∃ t,rs[rs.length - 2]?=some t:=⟨_,yb (by omega)⟩
 have hf:frB qs rs=true:=by
  unfold frB okE
  rw [gd ha,gd ht,gd hb,gd hu,decide_eq_true (h.fst a t ha ht),decide_eq_true (h.lst b u hb hu)]
  rfl
 have hg:gbt tps qs rs=true:=(qbs hn).mpr fun j s t hs ht=>by
  refine ⟨?_,fun r hj hr' e=>?_⟩
  ·unfold tiB;exact decide_eq_true (hr s t ⟨j,.inl ⟨hs,ht⟩⟩)
  ·have:=h.alt (j - 1) r s t hr' (by rw [show j - 1 + 1=j by omega];exact hs) (by rw [show j - 1 + 2=j + 1 by omega];exact ht)
   have e':=decide_eq_decide.mp e
   by_cases z:pt qs s=some t
   ·exact this.mp (e'.mpr z) z
   ·exact z (e'.mp (this.mpr z))
 unfold ctL rwL
 rw [em,hun,hg,hf,ya,decide_eq_true h2]
 rfl
theorem ct_adj {ss:List Str} {tps qs:List (Str×Str)} {rs:List Str} (hn:(qi qs).Nodup) (hg:gbt tps qs rs=true):∀ a b,adjR rs a b→(a,b)∈tps∨(b,a)∈tps:=fun a b h=>by
 have key:∀ {j:Nat} {s t:Str},rs[j]?=some s→rs[j + 1]?=some t→(s,t)∈tps∨(t,s)∈tps:=fun h1 h2=>by
  have:=((qbs hn).mp hg _ _ _ h1 h2).1
  unfold tiB at this
  exact yk this
 obtain ⟨j,⟨h1,h2⟩ | ⟨h1,h2⟩⟩:=h
 ·exact key h1 h2
 ·exact (key h1 h2).symm
abbrev zH:Stmt:=top 46
theorem sc_l_right:FnScope ["_law_web_here", "_law_names_here", "_law_pairs_here", "_law_row", "_law_due", "_law_handed", "_law_told", "_law_found", "_law_partners_here", "_law_more", "_law_first"] ["_law_web_here", "_law_names_here", "_law_pairs_here", "_law_row"] (qe zH):=fS
theorem All2.rev9 {α β:Type} {R:α→β→Prop} {l:List α} {m:List β} (h:All2 R l m):All2 R l.reverse m.reverse:=by
 refine ⟨by rw [List.length_reverse,List.length_reverse,h.len],fun k x y hx hy=>?_⟩
 have hk:=(yc.mp hx).1
 rw [List.length_reverse] at hk
 rw [List.getElem?_reverse hk] at hx
 rw [List.getElem?_reverse (by rw [← h.len];exact hk),← h.len] at hy
 exact h.at_ _ x y hx hy
theorem eqT_ls {K:W.Frag} {H:Hp} {a b:Addr} {ss:List Str} (ha:H a=some (.lst (ss.map V.str))) (hb:H b=some (.lst (ss.map V.str))):EqT K H 1 a b true:=by
 have z:=EqT.lst (K:=K) (H:=H) (n:=0) (e:=fun _=>true) (SqL.of ha) (SqL.of hb) rfl fun j x y h1 h2=>by
  rw [h1] at h2
  cases h2
  obtain ⟨z,_,rfl⟩:=List.mem_map.mp (ye h1)
  exact eqD_flat rfl
 rw [qdp] at z
 exact z
theorem th_row {p a:Addr} {H:Hp} {ss rs:List Str} (hO:NOk ss) (hin:∀ s∈rs,s∈ss) (hap:a≠p) (e:H a=some (.lst (rs.map V.str))) (hl:rs.length≤1000):Th p H 3 (.ref a):=
 .lst e hap (fun y hy=>by
  obtain ⟨s,hs,rfl⟩:=List.mem_map.mp hy
  exact .flat rfl fun u e=>by cases e;have:=j5 (hO.nm _ (hin s hs));omega) (by rw [ya];exact hl)
theorem qcY {cc:Nat→Addr} {cw p x h a:Addr} {N:Nat} {J:Hp} {ss:List Str} {ns:List Nat} {tps qs:List (Str×Str)} {us:List Addr} {rs:List Str} {g:Str→Option Str} {Q:VK} {E:XK} (hL:LW ss ns tps) (hW:WebAt cw J x ss ns) (hp:Pn N J p) (hhp:h≠p) (hP:PL J h us qs) (hD:DP tps qs) (hap:a≠p) (ha:J a=some (.lst (rs.map V.str))) (hl:rs.length≤1000) (hin:∀ s∈rs,s∈ss) (hT:TurnR (pt qs) rs) (hr:∀ a b,adjR rs a b→(a,b)∈tps∨(b,a)∈tps)
  (hg:∀ a b,g a=some b↔flipR (pt qs) rs a b) (q:∀ (l:Addr) (ls:List Addr) (H':Hp),L2.Same J H'→J l=none→PL H' l ls (rsG ss g ss.length)→ls.length≤196→Q (.ref l) H'):qeJ cc cw [.ref x,.ref h,.ref a] J Q E:=by
 have gv:GV J ss tps (.ref h) qs:=qeG hL.o hL.t hP hD
 have f30:=hD.few
 have hct:=turn_ct hL.o hD.nd hT hr hin
 refine ⟨p,x,ss,ns,tps,.ref h,.ref a,rfl,hW,hL.a,qeI hL.o (qeH hL.t hD) hp hhp hP (by omega),th_row hL.o hin hap ha hl,fun hf=>by (rw [gv.tru] at hf;cases hf),fun qs2 hq2=>?_⟩
 have e:=hq2.one gv
 subst e
 refine ⟨fun hf=>by (rw [jM ha,hct] at hf;cases hf),fun a' rs' e1 e2 nd _ l ls H' s' hl0 hl' hl196 hAl=>?_⟩
 cases e1
 rw [ha] at e2
 have e3:rs.map V.str=rs'.map V.str:=HO.lst.inj (ym e2)
 have e4:=congrArg (List.map qH) e3
 rw [zq,zq] at e4
 subst e4
 rw [flT_due hL.o hL.a hT hg (qeo hT hg hD.pf hr)] at hAl
 exact q l ls H' s' hl0 (PrAt.pl hl' hAl) hl196
def qgi (cw:Addr):Sp:=fun vs H Q _=>∃ (p x n l r a:Addr) (ss:List Str) (ns:List Nat) (ts us:List Addr) (tps qs:List (Str×Str)) (N:Nat) (rs:List Str),vs=[.ref x,.ref n,.ref r,.ref a]∧LW ss ns tps∧EA cw p x n l ss ns ts tps N H∧PL H r us qs∧r≠p∧DP tps qs∧H a=some (.lst (rs.map V.str))∧a≠p∧rs.length≤15∧ctL ss tps qs (rs.map V.str)=true∧∀ H',L2.Same H H'→Q (.bl true) H'
theorem qeq {H:Hp} {d:Addr} {qs:List (Str×Str)} {s:Str} {Q:VK} (hd:H d=some (.dK (prK qs))) (q:Q (.bl (!(pt qs s).isSome)) H):qe4 K true (.str s) (.ref d) H Q:=by
 refine .inr (.inl ⟨d,_,rfl,DGet.k (k:=Sum.inr s) hd,?_⟩)
 rw [jz,if_pos rfl,Option.isSome_map]
 exact q
theorem ok_rgC (F:Fun K "_law_right" "_law_right" zH f fd) (T:Txt K mg cc cw) (D_l_flipped:DefOk P w K mg base CX0 2 "_law_flipped" ["_law_names_here", "_law_pairs_here", "_law_row"] qho) (D_l_partners:DefOk P w K mg base CX0 1 "_law_partners" ["_law_pairs_here"] qel) (D_l_rising:DefOk P w K mg base CX0 1 "_law_rising" ["_law_names_here", "_law_partners_here"] qfB)
  (QD_turned:DefOk P w K mg base CX0 12 "turned" ["web", "pairs", "row"] (fun vs H Q _=>qeJ cc cw vs H Q E0)):FnOk P w K mg base CX0 13 f fd ["_law_web_here", "_law_names_here", "_law_pairs_here", "_law_row"] (qgi cw):=by
 refine F.ok sc_l_right (fun vs H Q E h=>?_) fun cdv A outer s H vs Q E hr h=>?_
 ·obtain ⟨p,x,n,l,r,a,ss,ns,ts,us,tps,qs,N,rs,rfl,_⟩:=h;rfl
 ·obtain ⟨p,x,n,l,r,a,ss,ns,ts,us,tps,qs,N,rs,rfl,hL,hE,hP,hrp,hD,ha,hap,hrl,hct,q⟩:=h
  have hu:=qah hr
  have hfew:=hL.o.few
  have f30:=hD.few
  have em:(rs.map V.str).map qH=rs:=zq rs
  have hx2:=hct
  unfold ctL rwL at hx2
  rw [em,ya] at hx2
  obtain ⟨hx2,hfr⟩:=(Bool.and_eq_true _ _).mp hx2
  obtain ⟨hx2,hgb⟩:=(Bool.and_eq_true _ _).mp hx2
  obtain ⟨hun,h2⟩:=(Bool.and_eq_true _ _).mp hx2
  have h2:2≤rs.length:=yk h2
  obtain ⟨_,e2,e3⟩:=qak hun
  rw [em] at e2 e3
  have hin:∀ s∈rs,s∈ss:=fun s hs=>(e2 s hs).1
  have hT:TurnR (pt qs) rs:=ct_turn (ss:=ss) hD.nd e3 h2 hgb hfr
  have hadj:=ct_adj (ss:=ss) hD.nd hgb
  obtain ⟨g,hg⟩:=flip_fun hT
  have hpf:=qeo hT hg hD.pf hadj
  have hDg:=qfk hL.o hL.t hpf
  have hptg:=qfj hL.o hL.t hpf
  have hTg:TurnR (pt (rsG ss g ss.length)) rs:=by rw [hptg];exact hT.again hg
  have hgg:∀ a b,pt qs a=some b↔flipR (pt (rsG ss g ss.length)) rs a b:=fun a b=>by rw [hptg];exact (hT.twice hg).symm
  obtain ⟨n0,g0⟩:∃ n0,rs[0]?=some n0:=⟨_,yb (by omega)⟩
  obtain ⟨m0,k0⟩:∃ m0,rs[rs.length - 1]?=some m0:=⟨_,yb (by omega)⟩
  have hlen:=turn_len hL.o hL.t hD hT hg hpf hin g0 k0
  have at_:∀ {j:Nat} {n:Str},rs[j]?=some n→(rs.map V.str)[j]?=some (.str n):=fun e=>by rw [yd,e];rfl
  refine ⟨_,(qb (qu (i:=4) sc_l_right.nd rfl (Or.inl rfl) (qr D_l_flipped (hmR hr) qz (qa (pv 1) (qa (pv 2) (qa (pv 3) qd)))))
 (qb (qu (i:=5) sc_l_right.nd rfl (Or.inl rfl) (zj (qbR (K:=K) rfl rfl) rfl T.b_list boot_list (qa (pv 2) qd)))
 (qb (qu (i:=6) sc_l_right.nd rfl (Or.inl rfl) (zj (qbR (K:=K) rfl rfl) rfl T.b_list boot_list (qa (pv 3) qd)))
 (qb (qu (i:=7) sc_l_right.nd rfl (Or.inl rfl) (qr QD_turned (hmR hr) qz (qa (pv 0) (qa (pv 5) (qa (pv 6) qd)))))
 (qb (qL (PW.pt (qaD (qZ (qK (qm (qax (K:=K) rfl) rfl T.b_isinstance boot_isinstance (qa (pv 7) (qa (j6 (v:=.ty "list") rfl T.b_list boot_list rfl) qd))))) (qaD (qv (qaK (K:=K) rfl hu) (pv 7) (pv 4) (qA _)) (qaD (qv (qaK (K:=K) rfl hu) (pv 5) (pv 2) (qA _)) (qau (qv (qaK (K:=K) rfl hu) (pv 6) (pv 3) (qA _))))))) (qf (qp jp)) qq)
 (qb (qu (i:=8) sc_l_right.nd rfl (Or.inl rfl) (qr D_l_partners (hmR hr) qz (qa (pv 2) qd)))
 (qb (qu (i:=9) sc_l_right.nd rfl (Or.inl rfl) (qB qbx (qB (jY (K:=K) rfl) (zj qb5 rfl T.b_int boot_int (qa (qV (jT (K:=K) rfl hu) (qx (qy (K:=K) rfl hu) (pv 3) qg (fun _ _=>rfl)) (pv 8) (by with_unfolding_all rfl)) qd)) (zj qb5 rfl T.b_int boot_int (qa (qV (jT (K:=K) rfl hu) (qx (qy (K:=K) rfl hu) (pv 3) (qbw qaw qg) (fun _ _=>rfl)) (pv 8) (by with_unfolding_all rfl)) qd))) qg))
 (qb (qL (qv (qaK (K:=K) rfl hu) (qB qbx (qm (jX (K:=K) rfl) rfl T.b_len boot_len (qa (pv 4) qd)) (qm (jX (K:=K) rfl) rfl T.b_len boot_len (qa (pv 2) qd))) (pv 9) (qA _)) (qf (qp jp)) qq)
 (qb (qU (qdI (K:=K) rfl PySem.F.plainAttrs_list PySem.F.slot_list_append PySem.F.type_list_append jf (pv 7) (qa (jJ (qa j8 (qa j8 qd))) qd)))
 (qb (qu (i:=10) sc_l_right.nd rfl (Or.inl rfl) (qr D_l_rising (hmR hr) qz (qa (pv 1) (qa (pv 8) qd))))
 (qf (qp (qa1 (qV (qaz (K:=K) rfl hu) (qr QD_turned (hmR hr) qz (qa (pv 0) (qa (pv 4) (qa (pv 3) qd)))) (pv 10) (qA _)) (qa0 (qV (qaz (K:=K) rfl hu) (qr QD_turned (hmR hr) qz (qa (pv 0) (qa (qd6 (K:=K) rfl (pv 4) (jH (qbw qaw qg))) (qa (qd6 (K:=K) rfl (pv 3) (jH (qbw qaw qg))) qd)))) (pv 10) (qA _)))))))))))))))),?_⟩
  ext
  refine ⟨n,r,a,ss,us,qs,rs,g,rfl,hE.nm,hfew,hP,hD.nd,f30,ha,hrl,hT,hg,fun du dls H1 s1 hdu0 hdu hdl=>?_⟩
  have pdu:=hE.pn.apart hdu0
  ext
  refine .inl ⟨r,_,rfl,.inl (.of (s1 _ _ hP.1)),fun h hh0=>?_⟩
  have hhp:=(hE.pn.same s1).apart hh0
  have s2:=qX (Sr H1) (o:=.lst (us.map V.ref)) hh0
  have eh:upd H1 h (.lst (us.map V.ref)) h=some (.lst (us.map V.ref)):=qc
  generalize upd H1 h (.lst (us.map V.ref))=H2 at s2 eh
  have s02:=s1.trans s2
  have hH2:PL H2 h us qs:=⟨eh,(hP.same s02).2⟩
  ext
  refine .inl ⟨a,_,rfl,.inl (.of (s02 _ _ ha)),fun t ht0=>?_⟩
  have htp:=(hE.pn.same s02).apart ht0
  have s3:=qX (Sr H2) (o:=.lst (rs.map V.str)) ht0
  have et:upd H2 t (.lst (rs.map V.str)) t=some (.lst (rs.map V.str)):=qc
  generalize upd H2 t (.lst (rs.map V.str))=H3 at s3 et
  have s03:=s02.trans s3
  have hE3:=hE.same s03
  ext
  refine qcY hL hE3.wb.web hE3.pn hhp (hH2.same s3) hD htp et (by omega) hin hT hadj hg fun fo fls H4 s4 hfo0 hfo hfl=>?_
  have s04:=s03.trans s4
  ext
  refine qaL (.inl (.lst hfo.1)) rfl (j7 K "list" (by simp) "list" (by simp)) ?_
  ext
  refine yq ?_
  ext
  refine .inr (.inl ⟨fo,du,true,2,rfl,rfl,by decide,qdr hfo ((hdu.same s2).same (s3.trans s4)),?_⟩)
  ext
  refine yq ?_
  ext
  refine .inr (.inl ⟨h,r,true,2,rfl,rfl,by decide,qdr (hH2.same (s3.trans s4)) (hP.same s04),?_⟩)
  ext
  refine yq ?_
  ext
  refine .inr (.inl ⟨t,a,true,1,rfl,rfl,by decide,eqT_ls (s4 _ _ et) (s04 _ _ ha),?_⟩)
  ext
  refine yq ?_
  ext
  refine ⟨r,us,qs,rfl,hP.same s04,hD.nd,by omega,fun d H5 s5 hd0 hd=>?_⟩
  have s05:=s04.trans s5
  have ha5:=s05 _ _ ha
  ext
  refine .inl (zk ha5 (v:=.str n0) (qt (j:=0) (at_ g0)) ?_)
  ext
  refine qeq hd ?_
  refine .inr ⟨_,rfl,?_⟩
  ext
  refine ⟨1,rfl,?_⟩
  refine .inl (zk ha5 (v:=.str m0) (qbd (j:=1) (by decide) (by rw [ya];omega) (by rw [ya];exact at_ k0)) ?_)
  ext
  refine qeq hd ?_
  refine .inr ⟨_,rfl,?_⟩
  have hlI:((rsG ss g ss.length).length:Int) - (qs.length:Int)=(if (!(pt qs n0).isSome)=true then 1 else 0) + (if (!(pt qs m0).isSome)=true then 1 else 0) - 1:=by
   cases e5:(pt qs n0).isSome<;>cases e6:(pt qs m0).isSome<;>rw [e5,e6] at hlen<;>simp at hlen ⊢<;>omega
  ext
  rw [← hlI]
  have hdu5:=((hdu.same s2).same (s3.trans s4)).same s5
  have hP5:=hP.same s05
  refine qaU hdu5.1 ?_
  ext
  refine qaU hP5.1 ?_
  ext
  rw [ya,ya,hdu5.2.len,hP5.2.len]
  refine vNeI7 ?_
  rw [decide_eq_true rfl]
  ext
  refine yq ?_
  ext
  refine ⟨.inl ⟨rfl,_,.of (s5 _ _ hfo.1)⟩,?_⟩
  ext
  refine ⟨by show 2≤sizeLine;decide,fun t1 ht1=>?_⟩
  have s6:=qX s05 (o:=.tup [.str "a",.str "b"]) ht1
  have hfo6:=qX s5 (o:=.tup [.str "a",.str "b"]) ht1 _ _ hfo.1
  have s56:=qX (Sr H5) (o:=.tup [.str "a",.str "b"]) ht1
  generalize upd H5 t1 (.tup [.str "a",.str "b"])=H6 at s6 hfo6 s56
  ext
  refine ⟨fo,_,_,rfl,rfl,hfo6,by rw [ya];exact qk (by omega),?_⟩
  have hf03:=hfo0
  have hf01:H1 fo=none:=(s2.trans s3).free hf03
  have hf00:H fo=none:=s03.free hf03
  have hdf:d≠fo:=fun z=>by rw [z,hfo.1] at hd0;cases hd0
  have s7:=qbG s6 (o:=.lst (fls.map V.ref++[.ref t1])) hf00
  have s17:=qbG (((s2.trans (s3.trans s4)).trans s5).trans s56) (o:=.lst (fls.map V.ref++[.ref t1])) hf01
  have hd7:upd H6 fo (.lst (fls.map V.ref++[.ref t1])) d=some (.dK (prK qs)):=by rw [qh hdf];exact s56 _ _ hd
  generalize upd H6 fo (.lst (fls.map V.ref++[.ref t1]))=H7 at s7 s17 hd7
  have hE7:=hE.same s7
  have hdu7:=hdu.same s17
  ext
  refine ⟨n,d,ss,prK qs,pt qs,rfl,hE7.nm,hfew,hd7,fun s=>jz s qs,fun fi fis H8 s8 hfi0 hfi hfil=>?_⟩
  have s08:=s7.trans s8
  have hE8:=hE.same s08
  have hdu8:=hdu7.same s8
  ext
  refine qcY hL hE8.wb.web hE8.pn pdu hdu8 hDg hap (s08 _ _ ha) (by omega) hin hTg hadj hgg fun o1 o1s H9 s9 ho10 ho1 ho1l=>?_
  have s09:=s08.trans s9
  have hE9:=hE.same s09
  have hfi9:=hfi.same s9
  ext
  refine .inl (.inl (.inr (.inl ⟨o1,fi,true,2,rfl,rfl,by decide,qdr ho1 hfi9,?_⟩)))
  refine ⟨true,rfl,j9 ?_⟩
  ext
  refine qgH ?_
  ext
  refine ⟨1,rfl,?_⟩
  have hdu9:=hdu8.same s9
  refine ⟨_,rfl,rfl,du,_,rfl,.of hdu9.1,fun dr hdr0=>?_⟩
  have pdr:=hE9.pn.apart hdr0
  have sA:=qX (Sr H9) (o:=.lst (dls.map V.ref).reverse) hdr0
  have edr:upd H9 dr (.lst (dls.map V.ref).reverse) dr=some (.lst (dls.map V.ref).reverse):=qc
  generalize upd H9 dr (.lst (dls.map V.ref).reverse)=HA at sA edr
  have s0A:=s09.trans sA
  have hEA:=hE.same s0A
  have hdrP:PL HA dr dls.reverse (rsG ss g ss.length).reverse:=⟨by rw [List.map_reverse];exact edr,(hdu9.same sA).2.rev9⟩
  ext
  refine qgH ?_
  ext
  refine ⟨1,rfl,?_⟩
  refine ⟨_,rfl,rfl,a,_,rfl,.of (s0A _ _ ha),fun ar har0=>?_⟩
  have par:=hEA.pn.apart har0
  have sB:=qX (Sr HA) (o:=.lst (rs.map V.str).reverse) har0
  have ear:upd HA ar (.lst (rs.map V.str).reverse) ar=some (.lst (rs.reverse.map V.str)):=by rw [qc,List.map_reverse]
  generalize upd HA ar (.lst (rs.map V.str).reverse)=HB at sB ear
  have s0B:=s0A.trans sB
  have hEB:=hE.same s0B
  have hTr:TurnR (pt (rsG ss g ss.length).reverse) rs.reverse:=by rw [qfl hDg.nd];exact hTg.rev
  have hgr:∀ a b,pt qs a=some b↔flipR (pt (rsG ss g ss.length).reverse) rs.reverse a b:=fun a b=>by
   rw [qfl hDg.nd,hTg.rev.xor,adjR.rev_iff,← hTg.xor]
   exact hgg a b
  ext
  refine qcY hL hEB.wb.web hEB.pn pdr (hdrP.same sB) hDg.rev par ear (by rw [List.length_reverse];omega) (fun s hs=>hin s (List.mem_reverse.mp hs)) hTr (fun a b h=>hadj a b (adjR.rev_iff.mp h)) hgr fun o2 o2s HC sC ho20 ho2 ho2l=>?_
  ext
  refine .inl (.inl (.inr (.inl ⟨o2,fi,true,2,rfl,rfl,by decide,qdr ho2 (hfi9.same ((sA.trans sB).trans sC)),?_⟩)))
  exact q HC (s0B.trans sC)
abbrev jP:Stmt:=top 48
theorem sc_l_refused:FnScope ["_law_web_here", "_law_pairs_here", "_law_thing", "e"] ["_law_web_here", "_law_pairs_here", "_law_thing"] (qe jP):=fS
abbrev zI:Stmt:=top 49
theorem sc_l_asked:FnScope ["_law_web_here", "_law_names_here", "_law_ties", "_law_pairs_here", "_law_thing", "_law_partners_here"] ["_law_web_here", "_law_names_here", "_law_ties", "_law_pairs_here", "_law_thing"] (qe zI):=fS
def qeK (cw:Addr):Sp:=fun vs H Q _=>∃ (p x:Addr) (ss:List Str) (ns:List Nat) (tps qs:List (Str×Str)) (v u:V),vs=[.ref x,v,u]∧WebAt cw H x ss ns∧Adj ss ns tps∧Th p H 3 v∧GV H ss tps v qs∧Ok p H 3 4000 6 u∧onL H (ctL ss tps qs) u=false∧∀ H',L2.Same H H'→Q (.bl true) H'
def qgj (cw:Addr):Sp:=fun vs H Q _=>∃ (p x n l r a:Addr) (ss:List Str) (ns:List Nat) (ts us:List Addr) (tps qs:List (Str×Str)) (N:Nat) (rs:List Str),vs=[.ref x,.ref n,.ref l,.ref r,.ref a]∧LW ss ns tps∧EA cw p x n l ss ns ts tps N H∧PL H r us qs∧r≠p∧DP tps qs∧H a=some (.lst (rs.map V.str))∧a≠p∧rs.length≤15∧(∀ s∈rs,s∈ss)∧∀ H',L2.Same H H'→Q (.bl true) H'
theorem ok_rfC (F:Fun K "_law_refused" "_law_refused" jP f fd) (T:Txt K mg cc cw) (mr6:W.mroIn K (cc 6) (.ref (cc 6))=some true) (kO6:W.kitOne K (.ref (cc 6)) (.ref (cc 7))=some true) (D_turned:DefOk P w K mg base (CX1 P w) 12 "turned" ["web", "pairs", "row"] (qeJ cc cw))
  (WD_l_very:DefOkW P w K mg base 1 "_law_very" ["_law_found", "_law_thing"] qgN):FnOk P w K mg base CX0 13 f fd ["_law_web_here", "_law_pairs_here", "_law_thing"] (qeK cw):=by
 refine F.ok sc_l_refused (fun vs H Q E h=>?_) fun cdv A outer s H vs Q E hr h=>?_
 ·obtain ⟨p,x,ss,ns,tps,qs,v,u,rfl,_⟩:=h;rfl
 ·obtain ⟨p,x,ss,ns,tps,qs,v,u,rfl,hW,hA,hv,hgq,hu2,hct,q⟩:=h
  have hu:=qah hr
  refine ⟨_,(qb (ps_try rfl rfl rfl qq)
 (qf (qp jp))),?_⟩
  ext
  refine ⟨fun σ c dxo H'=>∃ dy,c=.ref (cc 6)∧dxo=some dy∧L2.Same H H'∧H' dy=some (.xd [(qa3 6,u)])∧σ=[some (.ref x),some v,some u,none],_,fun pn xe jl=>(qf (qU (qag D_turned (hmR hr) jl (qa (pv 0) (qa (pv 1) (qa (pv 2) qd)))))),?_,fun a C dx' σ' H' hE ha'=>?_⟩
  ·ext
   refine ⟨p,x,ss,ns,tps,v,u,rfl,hW,hA,hv,hu2.1,(fun h=>by rw [hgq.tru] at h;cases h),fun qs2 hq2=>?_⟩
   have e:=hq2.one hgq
   subst e
   exact ⟨fun _ dy H' s' hy=>⟨dy,rfl,rfl,s',hy,rfl⟩,fun a rs e1 e2 nd hc=>by subst e1;rw [jM e2,hc] at hct;cases hct⟩
  ·obtain ⟨dy,hc',rfl,s1,hy,rfl⟩:=hE
   cases hc'
   refine ⟨_,(ph_as (K:=K) rfl sc_l_refused.nd (i:=3) rfl rfl rfl T.m_NoRow (qf (qp (qa1 (qeL (qm (qax (K:=K) rfl) rfl T.b_isinstance boot_isinstance (qa (pv 3) (qa (qcB (v:=.ref (cc 5)) rfl T.m_NoPairs rfl) qd)))) (qa1 (qm (qax (K:=K) rfl) rfl T.b_isinstance boot_isinstance (qa (pv 3) (qa (qcB (v:=.ref (cc 7)) rfl T.m_OnceError rfl) qd))) (qa0 (pe_defW WD_l_very (hr.soft (by decide)) (qa (zW (K:=K) rfl (pv 3) rfl) (qa (pv 2) qd)))))))) ph_nil),?_⟩
   refine ⟨true,mr6,T.xat 6 (by decide),T.xat 6 (by decide),j9 ?_⟩
   have tx:TyX K H' (.ref a) (.ref (cc 6)):=.inr ⟨a,cc 6,some dy,rfl,rfl,.inr ha',T.xat 6 (by decide),fun d z=>by cases z;exact ⟨_,hy⟩⟩
   ext
   refine qaL tx rfl (T.kit 6 5 (by decide) (by decide)) ?_
   ext
   refine j9 ?_
   ext
   refine qaL tx rfl kO6 ?_
   refine ⟨_,rfl,j9 ?_⟩
   ext
   refine .inr ⟨a,cc 6,dy,_,u,rfl,.inr ha',T.xat 6 (by decide),T.na 6 (by decide),hy,rfl,?_⟩
   ext
   refine ⟨p,u,3,rfl,hu2.same s1,fun H2 s2=>?_⟩
   exact q H2 (s1.trans s2)
theorem ok_asC (F:Fun K "_law_asked" "_law_asked" zI f fd) (T:Txt K mg cc cw) (D_l_partners:DefOk P w K mg base CX0 1 "_law_partners" ["_law_pairs_here"] qel) (D_l_is_row:DefOk P w K mg base CX0 2 "_law_is_row" ["_law_names_here", "_law_ties", "_law_partners_here", "_law_thing"] qgf) (D_l_is_free:DefOk P w K mg base CX0 1 "_law_is_free" ["_law_partners_here", "_law_row"] qgg)
  (D_l_right:DefOk P w K mg base CX0 13 "_law_right" ["_law_web_here", "_law_names_here", "_law_pairs_here", "_law_row"] (qgi cw)) (D_l_refused:DefOk P w K mg base CX0 13 "_law_refused" ["_law_web_here", "_law_pairs_here", "_law_thing"] (qeK cw)):FnOk P w K mg base CX0 14 f fd ["_law_web_here", "_law_names_here", "_law_ties", "_law_pairs_here", "_law_thing"] (qgj cw):=by
 refine F.ok sc_l_asked (fun vs H Q E h=>?_) fun cdv A outer s H vs Q E hr h=>?_
 ·obtain ⟨p,x,n,l,r,a,ss,ns,ts,us,tps,qs,N,rs,rfl,_⟩:=h;rfl
 ·obtain ⟨p,x,n,l,r,a,ss,ns,ts,us,tps,qs,N,rs,rfl,hL,hE,hP,hrp,hD,ha,hap,hrl,hin,q⟩:=h
  have hu:=qah hr
  have f30:=hD.few
  have em:(rs.map V.str).map qH=rs:=zq rs
  have hok:∀ {J:Hp},L2.Same H J→Ok p J 3 4000 6 (.ref a):=fun sJ=>(Sm.lst (qdB fun s hs=>hL.o.nm s (hin s hs)) (sJ _ _ ha) hap (by rw [ya];omega)).mono (yh _) (by decide)
  have no:∀ {J:Hp},L2.Same H J→ctL ss tps qs (rs.map V.str)=false→qeK cw [.ref x,.ref r,.ref a] J Q E0:=fun sJ hf =>
   ⟨p,x,ss,ns,tps,qs,.ref r,.ref a,rfl,(hE.same sJ).wb.web,hL.a,qeI hL.o (qeH hL.t hD) (hE.pn.same sJ) hrp (hP.same sJ) (by omega),qeG hL.o hL.t (hP.same sJ) hD,hok sJ,by rw [jM (sJ _ _ ha)];exact hf,fun H' s'=>q H' (sJ.trans s')⟩
  refine ⟨_,(qb (qu (i:=5) sc_l_asked.nd rfl (Or.inl rfl) (qr D_l_partners (hmR hr) qz (qa (pv 3) qd)))
 (qb (qL (PW.pt (qav (qK (qr D_l_is_row (hmR hr) qz (qa (pv 1) (qa (pv 2) (qa (pv 5) (qa (pv 4) qd)))))) (qab (qK (qr D_l_is_free (hmR hr) qz (qa (pv 5) (qa (pv 4) qd))))))) (qf (qp (qr D_l_right (hmR hr) qz (qa (pv 0) (qa (pv 1) (qa (pv 3) (qa (pv 4) qd))))))) qq)
 (qf (qp (qr D_l_refused (hmR hr) qz (qa (pv 0) (qa (pv 3) (qa (pv 4) qd)))))))),?_⟩
  ext
  refine ⟨r,us,qs,rfl,hP,hD.nd,by omega,fun d H1 s1 hd0 hd=>?_⟩
  have hE1:=hE.same s1
  ext
  refine ⟨p,n,l,d,ss,ts,tps,qs,.ref a,rfl,hE1.nm,hL.o,hE1.pl,hd,hD.nd,(hok s1).1,fun H2 s2=>?_⟩
  rw [jM (s1 _ _ ha)]
  have s02:=s1.trans s2
  cases hrw:rwL ss tps qs (rs.map V.str) with
  | false =>
   refine ⟨_,rfl,qI (fun h=>by cases h) fun _=>qI (fun h=>by cases h) fun _=>?_⟩
   ext
   exact no s02 (by unfold ctL;rw [hrw];rfl)
  | true =>
   have hx2:=hrw
   unfold rwL at hx2
   rw [em,ya] at hx2
   obtain ⟨hx2,hgb⟩:=(Bool.and_eq_true _ _).mp hx2
   obtain ⟨hun,h2⟩:=(Bool.and_eq_true _ _).mp hx2
   have h2:2≤rs.length:=yk h2
   refine ⟨_,rfl,j9 ?_⟩
   ext
   refine ⟨d,a,qs,rs,rfl,s2 _ _ hd,s02 _ _ ha,h2,fun H3 s3=>?_⟩
   have s03:=s02.trans s3
   cases hf:frB qs rs with
   | false =>
    refine ⟨_,rfl,qI (fun h=>by cases h) fun _=>?_⟩
    ext
    exact no s03 (by unfold ctL;rw [em,hf,Bool.and_false])
   | true =>
    refine ⟨_,rfl,j9 ?_⟩
    ext
    exact ⟨p,x,n,l,r,a,ss,ns,ts,us,tps,qs,N,rs,rfl,hL,hE.same s03,hP.same s03,hrp,hD,s03 _ _ ha,hap,hrl,by unfold ctL;rw [em,hrw,hf];rfl,fun H' s'=>q H' (s03.trans s')⟩
abbrev qal:Stmt:=top 50
theorem sc_law:FnScope ["_law_script", "_law_names_here", "_law_ties", "_law_web_here", "_law_box_here", "_law_pairs_here", "_law_thing", "_law_turn", "_law_row", "_law_k"] ["_law_script"] (qe qal):=fS
structure LSc (cw p x n l r:Addr) (ss:List Str) (ns:List Nat) (ts us:List Addr) (tps qs:List (Str×Str)) (N:Nat) (J:Hp):Prop where
 lw:LW ss ns tps
 ea:EA cw p x n l ss ns ts tps N J
 pl:PL J r us qs
 rp:r≠p
 dp:DP tps qs
theorem LSc.but {cw p x n l r:Addr} {ss:List Str} {ns:List Nat} {ts us:List Addr} {tps qs:List (Str×Str)} {N M:Nat} {J J':Hp} (h:LSc cw p x n l r ss ns ts us tps qs N J) (b:But p J J') (hB:Pn M J' p):LSc cw p x n l r ss ns ts us tps qs M J':=
 ⟨h.lw,h.ea.but b hB,h.pl.but7 h.ea.pn h.rp b,h.rp,h.dp⟩
theorem LSc.same {cw p x n l r:Addr} {ss:List Str} {ns:List Nat} {ts us:List Addr} {tps qs:List (Str×Str)} {N:Nat} {J J':Hp} (h:LSc cw p x n l r ss ns ts us tps qs N J) (s:L2.Same J J'):LSc cw p x n l r ss ns ts us tps qs N J':=h.but (fun c o _ e=>s c o e) (h.ea.pn.same s)
theorem qer {ss:List Str} {tps qs:List (Str×Str)} {xs:List V} (h:unl ss [] xs=false):ctL ss tps qs xs=false:=by
 unfold ctL rwL
 rw [h]
 rfl
theorem vRng2B {ta:TA} {σ:L2.St} {H:Hp} {R:It→Hp→Prop} (h:ta σ H fun vs H1=>∃ i j:Int,vs=[.int i,.int j]∧(-(2 ^ 62)≤i∧i < 2 ^ 62∧-(2 ^ 62)≤j∧j < 2 ^ 62)∧R (Itr i (j - i).toNat) H1):qfO ta σ H R:=h
theorem ne_nilB {K:W.Frag} {H:Hp} {l z:Addr} {xs:List Str} {Q:VK} (hl:H l=some (.lst (xs.map V.str))) (hz:H z=some (.lst [])) (q:Q (.bl (!xs.isEmpty)) H):qe3 K true (.ref l) (.ref z) H Q:=by
 cases xs with
 | nil=>exact .inr (.inl ⟨l,z,true,1,rfl,rfl,by decide,EqT.lst (n:=0) (e:=fun _=>true) (SqL.of hl) (SqL.of hz) rfl fun j x y h=>by (simp at h),q⟩)
 | cons x r=>exact .inr (.inl ⟨l,z,false,1,rfl,rfl,by decide,EqT.lstL (SqL.of hl) (SqL.of hz) (by simp),q⟩)
def forWith (s:Stmt) (es:List Expr):Stmt:=match s with
 | .For t (.List _ lp) b o p=>.For t (.List es lp) b o p
 | s=>s
abbrev bAt (s:Stmt) (i:Nat):Stmt:=(qj s).getD i (.Pass ⟨0,0,0,0⟩)
theorem law_parts:∃ es,qj qal=[bAt qal 0,bAt qal 1,bAt qal 2,bAt qal 3,forWith (bAt qal 4) es,bAt qal 5,bAt qal 6]∧∀ (env:Env) (PE':Expr→TE→Prop) (PA':List Expr→TA→Prop),
  (∀ j pos,PE' (.Constant .none j pos) (tC .non))→(∀ i j pos,PE' (.Constant (.int i) j pos) (tC (.int i)))→(∀ b j pos,PE' (.Constant (.bool b) j pos) (tC (.bl b)))→(∀ x j pos,PE' (.Constant (.str x) j pos) (tC (.str x))) →
  (∀ es pos t,PA' es t→PE' (.List es pos) (qex t))→(∀ es x1 pos t,PA' es t→PE' (.Tuple es x1 pos) (qgm t))→(∀ pos,PE' (.Dict [] [] pos) qeR)→PA' [] qc1 →
  (∀ e es te t,PE' e te→PA' es t→starEach (e::es) env=(false,eval e env)::starEach es env→PA' (e::es) (zK te t)) →
  PA' es (zK (qex qc1) (zK (tC .non) (zK (qgm qc1) (zK (tC (.str "ab")) (zK (tC (.int 7)) (zK (tC (.bl true)) (zK (qex (zK (tC .non) qc1)) (zK (qex (zK (tC (.str "A")) (zK (tC (.str "B")) qc1))) (zK (qex (zK (qex qc1) (zK (qex qc1) qc1))) qc1))))))))):=
 ⟨_,rfl,fun env PE' PA' hn hi hb hs hl ht hd h0 hc=>hc _ _ _ _ (hl _ _ _ h0) (hc _ _ _ _ (hn _ _) (hc _ _ _ _ (ht _ _ _ _ h0) (hc _ _ _ _ (hs _ _ _) (hc _ _ _ _ (hi _ _ _) (hc _ _ _ _ (hb _ _ _) (hc _ _ _ _ (hl _ _ _ (hc _ _ _ _ (hn _ _) h0 rfl)) (hc _ _ _ _ (hl _ _ _ (hc _ _ _ _ (hs _ _ _) (hc _ _ _ _ (hs _ _ _) h0 rfl) rfl)) (hc _ _ _ _ (hl _ _ _ (hc _ _ _ _ (hl _ _ _ h0) (hc _ _ _ _ (hl _ _ _ h0) h0 rfl) rfl)) h0 rfl) rfl) rfl) rfl) rfl) rfl) rfl) rfl) rfl⟩
theorem ok_lawC (F:Fun K "law" "law" qal f fd) (T:Txt K mg cc cw) (D_l_web:DefOk P w K mg base CX0 3 "_law_web" ["_law_script", "_law_most"] (qgb K)) (QD_Web:MakeOk P w K mg base CX0 5 cw "Web" ["self", "names", "ties"] (fun vs H Q _=>qeC cc cw vs H Q E0)) (D_l_box:DefOk P w K mg base CX0 1 "_law_box" ["_law_cell"] qgL) (D_l_at:DefOk P w K mg base CX0 1 "_law_at" ["_law_script", "_law_k"] (qgK K))
  (D_l_pairs:DefOk P w K mg base CX0 2 "_law_pairs" ["_law_box_here", "_law_ties"] qgc) (D_l_partners:DefOk P w K mg base CX0 1 "_law_partners" ["_law_pairs_here"] qel) (D_l_walk:DefOk P w K mg base CX0 2 "_law_walk" ["_law_box_here", "_law_names_here", "_law_ties", "_law_partners_here", "_law_strict"] qhn) (D_l_refused:DefOk P w K mg base CX0 13 "_law_refused" ["_law_web_here", "_law_pairs_here", "_law_thing"] (qeK cw))
  (D_l_asked:DefOk P w K mg base CX0 14 "_law_asked" ["_law_web_here", "_law_names_here", "_law_ties", "_law_pairs_here", "_law_thing"] (qgj cw)):FnOk P w K mg base CX0 15 f fd ["_law_script"] (qeE K):=by
 refine F.ok sc_law (fun vs H Q E h=>?_) fun cdv A outer s H vs Q E hr h=>?_
 ·obtain ⟨a,ns,rfl,_⟩:=h;rfl
 ·obtain ⟨a,nz,rfl,hS,hlen,q⟩:=h
  have hu:=qah hr
  obtain ⟨TC5,hTC5⟩:∃ t:TS,t=fun D σ J=>(∀ u H',Q u H'→D.rt u H')∧∃ (x p n l r:Addr) (ss:List Str) (ns:List Nat) (ts us:List Addr) (tps qs:List (Str×Str)) (y6 y7 y8 y9:Option V),σ=[some (.ref a),some (.ref n),some (.ref l),some (.ref x),some (.ref p),some (.ref r),y6,y7,y8,y9]∧LSc cw p x n l r ss ns ts us tps qs 120 J:=⟨_,rfl⟩
  obtain ⟨es7,hbody,hPA⟩:=law_parts
  rw [hbody]
  refine ⟨_,(qb (jG (qr D_l_web (hmR hr) qz (qa (pv 0) (qa qg qd))) (qb2 rfl (jQ (qw (i:=1) sc_law.nd rfl (Or.inl rfl)) (jQ (qw (i:=2) sc_law.nd rfl (Or.inl rfl)) qbe))))
 (qb (qu (i:=3) sc_law.nd rfl (Or.inl rfl) (pe_makeQ QD_Web (hmR hr) (qa (pv 1) (qa (pv 2) qd))))
 (qb (qu (i:=4) sc_law.nd rfl (Or.inl rfl) (qr D_l_box (hmR hr) qz (qa (qr D_l_at (hmR hr) qz (qa (pv 0) (qa qg qd))) qd)))
 (qb (qu (i:=5) sc_law.nd rfl (Or.inl rfl) (qr D_l_pairs (hmR hr) qz (qa (pv 4) (qa (pv 2) qd))))
 (qb (jm PassesOwn.never rfl (jK (K:=K) rfl (jv (hPA _ _ _ (fun _ _=>qdN) (fun _ _ _=>qg) (fun _ _ _=>jp) (fun _ _ _=>j8) (fun _ _ _ h=>jv h) (fun _ _ _ _ h=>jJ h) (fun _=>zr) qd fun _ _ _ _ ha hr hs=>qa ha hr hs))) (qw (i:=6) sc_law.nd rfl (Or.inl rfl))
 (qf (qL (qZ (qK (qr D_l_refused (hmR hr) qz (qa (pv 3) (qa (pv 5) (qa (pv 6) qd)))))) (qf (qp jp)) qq)))
 (qbV TC5 (qb (jm PassesOwn.never rfl (jw rfl T.b_range (qa qg qd)) (qw (i:=7) sc_law.nd rfl (Or.inl rfl))
 (qf (qL (qv (qaK (K:=K) rfl hu) (pv 1) (jv qd) (qA _)) (qb (qu (i:=8) sc_law.nd rfl (Or.inl rfl) (qr D_l_walk (hmR hr) qz (qa (pv 4) (qa (pv 1) (qa (pv 2) (qa (qr D_l_partners (hmR hr) qz (qa (pv 5) qd)) (qa (qV qcD (qB qac (pv 7) qg) qg (qA _)) qd)))))))
 (qb (jm PassesOwn.never rfl (pi_range2 rfl T.b_range (qa qg (qa (qB (jY (K:=K) rfl) (qm (jX (K:=K) rfl) rfl T.b_len boot_len (qa (pv 8) qd)) qg) qd))) (qw (i:=9) sc_law.nd rfl (Or.inl rfl))
 (qf (qL (qZ (qK (qr D_l_asked (hmR hr) qz (qa (pv 3) (qa (pv 1) (qa (pv 2) (qa (pv 5) (qa (jS (qes (K:=K) rfl) (pv 8) zL (jH (pv 9))) qd)))))))) (qf (qp jp)) qq)))
 (qf (qL (PW.pt (qaD (qZ (qK (qr D_l_refused (hmR hr) qz (qa (pv 3) (qa (pv 5) (qa (zj (k_tupleU (K:=K) rfl) rfl T.b_tuple boot_tuple (qa (pv 8) qd)) qd)))))) (qau (qZ (qK (qr D_l_asked (hmR hr) qz (qa (pv 3) (qa (pv 1) (qa (pv 2) (qa (pv 5) (qa (qd6 (K:=K) rfl (pv 8) (jH (qbw qaw qg))) qd))))))))))) (qf (qp jp)) qq)))) qq)))
 (qf (qp jp))) ?cut5)))))),?_⟩
  case cut5 =>
   intro D σ J h
   rw [hTC5] at h
   obtain ⟨hD,x,p,n,l,r,ss,ns,ts,us,tps,qs,y6,y7,y8,y9,rfl,hL⟩:=h
   ext
   refine ⟨6,rfl,by decide,by decide,jW (lo:=0) (n:=6) (fun i σ J=>∃ (y7 y8 y9:Option V),σ=[some (.ref a),some (.ref n),some (.ref l),some (.ref x),some (.ref p),some (.ref r),y6,y7,y8,y9]∧LSc cw p x n l r ss ns ts us tps qs (20 * (6 - i)) J) ⟨_,_,_,rfl,hL⟩ (fun i σ J hi hp=>?_) fun σ J hp=>?_⟩
   ·obtain ⟨z7,z8,z9,rfl,hL⟩:=hp
    ext
    refine ⟨by show 0≤sizeLine;decide,fun e he=>?_⟩
    have s1:=qX (Sr J) (o:=.lst []) he
    have ee:upd J e (.lst []) e=some (.lst []):=qc
    generalize upd J e (.lst [])=J1 at s1 ee
    have hL1:=hL.same s1
    have hO:=hL.lw.o
    have hfew:=hO.few
    refine ne_nilB hL1.ea.nm ee ⟨_,rfl,?_⟩
    by_cases hne:ss=[]
    ·rw [show (!ss.isEmpty)=false by rw [hne];rfl]
     refine yq ?_
     exact ⟨_,_,_,rfl,hL1.but (fun c o _ e=>e) (hL1.ea.pn.mono (by omega))⟩
    ·rw [show (!ss.isEmpty)=true by cases ss with | nil=>exact absurd rfl hne | cons _ _=>rfl]
     refine j9 ?_
     have hf30:=hL1.dp.few
     ext
     refine ⟨r,us,qs,rfl,hL1.pl,hL1.dp.nd,by omega,fun d J2 s2 hd0 hd=>?_⟩
     have hdp:=hL1.ea.pn.apart hd0
     have hL2:=hL1.same s2
     have hB2:=hL2.ea.pn
     rw [show 20 * (6 - i)=20 * (6 - (i + 1)) + 20 by omega] at hB2
     ext
     refine ⟨_,_,rfl,rfl,by show (0:Int) < 3;decide,?_⟩
     ext
     refine ⟨p,n,l,d,ss,ts,tps,qs,20 * (6 - (i + 1)),_,rfl,hB2,hL2.ea.np,hL2.ea.lp,hdp,hL2.ea.nm,hO,hne,hL2.ea.pl,hd,fun rw9 rs J3 b3 hB3 hrw0 hrwp erw hrs hr15 hr1=>?_⟩
     have hL3:=hL2.but b3 hB3
     have f30:=hL3.dp.few
     have hnr:∀ s∈rs,j3 s=true:=fun s hs=>hO.nm s (hrs s hs)
     ext
     refine vRng2B ?_
     ext
     refine qaU erw ?_
     rw [ya]
     ext
     refine ⟨1,(rs.length:Int) + 1,rfl,⟨by decide,by decide,by omega,by omega⟩,?_⟩
     rw [show ((rs.length:Int) + 1 - 1).toNat=rs.length by omega]
     refine jW (lo:=1) (n:=rs.length) (fun k σ G=>L2.Same J3 G∧∃ y9,σ=[some (.ref a),some (.ref n),some (.ref l),some (.ref x),some (.ref p),some (.ref r),y6,some (.int (0 + (i:Int))),some (.ref rw9),y9]) ⟨L2.Same.refl J3,_,rfl⟩ (fun k σ G hk hp=>?_) fun σ G hp=>?_
     ·obtain ⟨sG,y9',rfl⟩:=hp
      have erG:=sG _ _ erw
      rw [show (1:Int) + (k:Int)=((1 + k:Nat):Int) by omega]
      ext
      refine sl_toV (k:=1 + k) erG fun t ht=>?_
      have sT:=qX sG (o:=.lst ((rs.map V.str).take (1 + k))) ht
      have pt9:=(hB3.same sG).apart ht
      have eT:upd G t (.lst ((rs.map V.str).take (1 + k))) t=some (.lst ((rs.take (1 + k)).map V.str)):=by rw [qc,List.map_take]
      generalize upd G t (.lst ((rs.map V.str).take (1 + k)))=G2 at sT eT
      have hLG:=hL3.same sT
      ext
      refine ⟨p,x,n,l,r,t,ss,ns,ts,us,tps,qs,_,rs.take (1 + k),rfl,hLG.lw,hLG.ea,hLG.pl,hLG.rp,hLG.dp,eT,pt9,by rw [List.length_take];omega,fun s hs=>hrs s (List.mem_of_mem_take hs),fun G3 s3=>⟨_,rfl,?_⟩⟩
      refine yq ?_
      exact ⟨sT.trans s3,_,rfl⟩
     ·obtain ⟨sG,y9',rfl⟩:=hp
      have hLG:=hL3.same sG
      have erG:=sG _ _ erw
      ext
      refine ⟨rw9,_,rfl,.inl ⟨.of erG,fun tt htt=>?_⟩⟩
      have sT:=qX sG (o:=.tup (rs.map V.str)) htt
      have ptt:=(hB3.same sG).apart htt
      have eT:upd G tt (.tup (rs.map V.str)) tt=some (.tup (rs.map V.str)):=qc
      generalize upd G tt (.tup (rs.map V.str))=G2 at sT eT
      have hLG2:=hL3.same sT
      ext
      refine ⟨p,x,ss,ns,tps,qs,.ref r,.ref tt,rfl,hLG2.ea.wb.web,hLG2.lw.a,qeI hO (qeH hLG2.lw.t hLG2.dp) hLG2.ea.pn hLG2.rp hLG2.pl (by omega),qeG hO hLG2.lw.t hLG2.pl hLG2.dp,(Sm.tup (qdB hnr) eT ptt (by rw [ya];omega)).mono (yh _) (by decide),qdw fun a xs e1 e2=>by (cases e1;rw [eT] at e2;cases e2),fun G3 s3=>⟨_,rfl,?_⟩⟩
      refine yq ?_
      have sT3:=sT.trans s3
      have hLG3:=hL3.same sT3
      ext
      refine qgH ?_
      ext
      refine ⟨1,rfl,?_⟩
      refine ⟨_,rfl,rfl,rw9,_,rfl,.of (sT3 _ _ erw),fun ar har=>?_⟩
      have par:=hLG3.ea.pn.apart har
      have sR:=qX sT3 (o:=.lst (rs.map V.str).reverse) har
      have eR:upd G3 ar (.lst (rs.map V.str).reverse) ar=some (.lst (rs.reverse.map V.str)):=by rw [qc,List.map_reverse]
      generalize upd G3 ar (.lst (rs.map V.str).reverse)=G4 at sR eR
      have hLG4:=hL3.same sR
      ext
      refine ⟨p,x,n,l,r,ar,ss,ns,ts,us,tps,qs,_,rs.reverse,rfl,hLG4.lw,hLG4.ea,hLG4.pl,hLG4.rp,hLG4.dp,eR,par,by rw [List.length_reverse];omega,fun s hs=>hrs s (List.mem_reverse.mp hs),fun G5 s5=>⟨_,rfl,?_⟩⟩
      refine yq ?_
      exact ⟨_,_,_,rfl,hLG4.same s5⟩
   ·obtain ⟨z7,z8,z9,rfl,hL⟩:=hp
    ext
    exact hD _ _ (q _)
  ext
  refine qf7 ?_
  ext
  refine ⟨a,nz,rfl,hS,hlen,fun t n l ss ts tps H1 s1 et hn0 hl0 hnl hn hO hP hT=>?_⟩
  refine ⟨t,_,rfl,.of et,rfl,_,_,rfl,_,_,rfl,rfl,?_⟩
  obtain ⟨hTO,hSh⟩:=dt_tok hO hT
  ext
  refine fun x' dx' hx0 hdx0 hne=>?_
  refine web_made2 (.inl hn) (.inl hP.1) hP.2 hO hTO hSh hx0 hdx0 (Ne.symm hne) fun ns H3 s13 hWN hbits=>⟨rfl,?_⟩
  have s03:=s1.trans s13
  have hL:LW ss ns tps:=⟨hO,hT,adj_bits hbits⟩
  ext
  refine ⟨a,nz,1,rfl,s03.seq hS,by decide,fun c1=>?_⟩
  ext
  refine ⟨c1,rfl,fun p H4 s4 hp0 hB4=>?_⟩
  have ne:∀ {b:Addr} {o:HO},H3 b=some o→b≠p:=fun e z=>by rw [z,hp0] at e;cases e
  have hE4:EA cw p x' n l ss ns ts tps 1000000000000 H4:=⟨hB4,(hWN.web.freshA hp0).keep fun b o _ e=>s4 b o e,s4 _ _ (s13 _ _ hn),ne (s13 _ _ hn),(hP.same s13).same s4,ne (s13 _ _ hP.1)⟩
  ext
  refine ⟨p,l,ss,ts,tps,120,rfl,hE4.pn.mono (by decide),hE4.lp,hE4.pl,hT,fun r us qs J0 b1 hB1 hr00 hrp hPr hDr=>?_⟩
  have hE0:=hE4.but b1 hB1
  ext
  refine ⟨by show 0≤sizeLine;decide,fun t1 ht1=>?_⟩
  have st1:=qX (Sr J0) (o:=.lst []) ht1
  have et1:upd J0 t1 (.lst []) t1=some (.lst []):=qc
  have pt1:=hB1.apart ht1
  have hBt1:=hB1.new (o:=.lst []) ht1
  generalize upd J0 t1 (.lst [])=Gt1 at st1 et1 hBt1
  have tt1:=st1
  ext
  refine ⟨by show 0≤sizeLine;decide,fun t2 ht2=>?_⟩
  have st2:=qX (Sr Gt1) (o:=.tup []) ht2
  have et2:upd Gt1 t2 (.tup []) t2=some (.tup []):=qc
  have pt2:=hBt1.apart ht2
  have hBt2:=hBt1.new (o:=.tup []) ht2
  generalize upd Gt1 t2 (.tup [])=Gt2 at st2 et2 hBt2
  have tt2:=tt1.trans st2
  ext
  refine ⟨by show 1≤sizeLine;decide,fun t3 ht3=>?_⟩
  have st3:=qX (Sr Gt2) (o:=.lst [.non]) ht3
  have et3:upd Gt2 t3 (.lst [.non]) t3=some (.lst [.non]):=qc
  have pt3:=hBt2.apart ht3
  have hBt3:=hBt2.new (o:=.lst [.non]) ht3
  generalize upd Gt2 t3 (.lst [.non])=Gt3 at st3 et3 hBt3
  have tt3:=tt2.trans st3
  ext
  refine ⟨by show 2≤sizeLine;decide,fun t4 ht4=>?_⟩
  have st4:=qX (Sr Gt3) (o:=.lst [.str "A",.str "B"]) ht4
  have et4:upd Gt3 t4 (.lst [.str "A",.str "B"]) t4=some (.lst [.str "A",.str "B"]):=qc
  have pt4:=hBt3.apart ht4
  have hBt4:=hBt3.new (o:=.lst [.str "A",.str "B"]) ht4
  generalize upd Gt3 t4 (.lst [.str "A",.str "B"])=Gt4 at st4 et4 hBt4
  have tt4:=tt3.trans st4
  ext
  refine ⟨by show 0≤sizeLine;decide,fun t5 ht5=>?_⟩
  have st5:=qX (Sr Gt4) (o:=.lst []) ht5
  have et5:upd Gt4 t5 (.lst []) t5=some (.lst []):=qc
  have pt5:=hBt4.apart ht5
  have hBt5:=hBt4.new (o:=.lst []) ht5
  generalize upd Gt4 t5 (.lst [])=Gt5 at st5 et5 hBt5
  have tt5:=tt4.trans st5
  ext
  refine ⟨by show 0≤sizeLine;decide,fun t6 ht6=>?_⟩
  have st6:=qX (Sr Gt5) (o:=.lst []) ht6
  have et6:upd Gt5 t6 (.lst []) t6=some (.lst []):=qc
  have pt6:=hBt5.apart ht6
  have hBt6:=hBt5.new (o:=.lst []) ht6
  generalize upd Gt5 t6 (.lst [])=Gt6 at st6 et6 hBt6
  have tt6:=tt5.trans st6
  ext
  refine ⟨by show 2≤sizeLine;decide,fun t7 ht7=>?_⟩
  have st7:=qX (Sr Gt6) (o:=.lst [.ref t5,.ref t6]) ht7
  have et7:upd Gt6 t7 (.lst [.ref t5,.ref t6]) t7=some (.lst [.ref t5,.ref t6]):=qc
  have pt7:=hBt6.apart ht7
  have hBt7:=hBt6.new (o:=.lst [.ref t5,.ref t6]) ht7
  generalize upd Gt6 t7 (.lst [.ref t5,.ref t6])=Gt7 at st7 et7 hBt7
  have tt7:=tt6.trans st7
  ext
  refine ⟨by show 9≤sizeLine;decide,fun g hg=>?_⟩
  have pg:=hBt7.apart hg
  have et17:Gt7 t1=some (.lst []):=((((((st2.trans st3).trans st4).trans st5).trans st6).trans st7) _ _ et1)
  have et27:Gt7 t2=some (.tup []):=(((((st3.trans st4).trans st5).trans st6).trans st7) _ _ et2)
  have et37:Gt7 t3=some (.lst [.non]):=((((st4.trans st5).trans st6).trans st7) _ _ et3)
  have et47:Gt7 t4=some (.lst [.str "A",.str "B"]):=(((st5.trans st6).trans st7) _ _ et4)
  have et57:Gt7 t5=some (.lst []):=((st6.trans st7) _ _ et5)
  have et67:Gt7 t6=some (.lst []):=(st7 _ _ et6)
  have o1:Ok p Gt7 3 4000 6 (.ref t1):=(Ok.lst (k:=2) (n:=1) (m:=0) et17 pt1 (by show 0≤1000;decide) (fun y h=>by cases h)).mono (by show 2 * 0≤4000;decide) (by decide)
  have o2:Ok p Gt7 3 4000 6 (.ref t2):=(Ok.tup (k:=2) (n:=1) (m:=0) et27 pt2 (by show 0≤1000;decide) (fun y h=>by cases h)).mono (by show 2 * 0≤4000;decide) (by decide)
  have o3:Ok p Gt7 3 4000 6 (.ref t3):=(Ok.lst (k:=2) (n:=1) (m:=0) et37 pt3 (by show 1≤1000;decide) (qhi Ok.non)).mono (by show 2 * 1≤4000;decide) (by decide)
  have o4:Ok p Gt7 3 4000 6 (.ref t4):=(Ok.lst (k:=2) (n:=1) (m:=0) et47 pt4 (by show 2≤1000;decide) (qgs (Ok.str (by decide) (by decide) (by decide)) (Ok.str (by decide) (by decide) (by decide)))).mono (by show 2 * 2≤4000;decide) (by decide)
  have o5:Ok p Gt7 2 0 1 (.ref t5):=Ok.lst (k:=1) (n:=1) (m:=0) et57 pt5 (by show 0≤1000;decide) (fun y h=>by cases h)
  have o6:Ok p Gt7 2 0 1 (.ref t6):=Ok.lst (k:=1) (n:=1) (m:=0) et67 pt6 (by show 0≤1000;decide) (fun y h=>by cases h)
  have o7:Ok p Gt7 3 4000 6 (.ref t7):=(Ok.lst (k:=2) (n:=0) (m:=1) et7 pt7 (by show 2≤1000;decide) (qgs o5 o6)).mono (by show 1 * 2≤4000;decide) (by decide)
  have hnA:∀ z,V.str "A"=.str z→z∈ss→z∈([]:List Str):=fun z e hz=>by
   cases e
   exact absurd (hO.nm _ hz) (by decide +kernel)
  have hall:∀ v∈[V.ref t1,.non,.ref t2,.str "ab",.int 7,.bl true,.ref t3,.ref t4,.ref t7],Ok p Gt7 3 4000 6 v∧onL Gt7 (ctL ss tps qs) v=false:=fun v hv=>by
   simp only [List.mem_cons,List.not_mem_nil,or_false] at hv
   rcases hv with rfl | rfl | rfl | rfl | rfl | rfl | rfl | rfl | rfl
   ·exact ⟨o1,by rw [jM et17];rfl⟩
   ·exact ⟨Ok.non,rfl⟩
   ·exact ⟨o2,qdw fun a xs e1 e2=>by cases e1;rw [et27] at e2;cases e2⟩
   ·exact ⟨Ok.str (by decide) (by decide) (by decide),rfl⟩
   ·exact ⟨Ok.int (by decide) (by decide),rfl⟩
   ·exact ⟨Ok.bl,rfl⟩
   ·exact ⟨o3,by rw [jM et37];exact qer (qbY fun z e=>by cases e)⟩
   ·exact ⟨o4,by rw [jM et47];exact qer (qbY hnA)⟩
   ·exact ⟨o7,by rw [jM et7];exact qer (qbY fun z e=>by cases e)⟩
  have hEt:=hE0.same tt7
  have sg:=qX (Sr Gt7) (o:=.lst [V.ref t1,.non,.ref t2,.str "ab",.int 7,.bl true,.ref t3,.ref t4,.ref t7]) hg
  have eg:upd Gt7 g (.lst [V.ref t1,.non,.ref t2,.str "ab",.int 7,.bl true,.ref t3,.ref t4,.ref t7]) g=some (.lst [V.ref t1,.non,.ref t2,.str "ab",.int 7,.bl true,.ref t3,.ref t4,.ref t7]):=qc
  generalize upd Gt7 g (.lst [V.ref t1,.non,.ref t2,.str "ab",.int 7,.bl true,.ref t3,.ref t4,.ref t7])=G at sg eg
  have hall2:∀ v∈[V.ref t1,.non,.ref t2,.str "ab",.int 7,.bl true,.ref t3,.ref t4,.ref t7],Ok p G 3 4000 6 v∧onL G (ctL ss tps qs) v=false:=fun v hv=>⟨(hall v hv).1.same sg,by rw [qdA (hall v hv).1.1 sg];exact (hall v hv).2⟩
  generalize [V.ref t1,.non,.ref t2,.str "ab",.int 7,.bl true,.ref t3,.ref t4,.ref t7]=xs at eg hall2
  have hLS:LSc cw p x' n l r ss ns ts us tps qs 120 G:=⟨hL,hEt.same sg,(hPr.same tt7).same sg,hrp,hDr⟩
  refine .inl ⟨⟨_,.of eg⟩,jq (xs:=xs) (fun i σ J=>L2.Same G J∧∃ y6,σ=[some (.ref a),some (.ref n),some (.ref l),some (.ref x'),some (.ref p),some (.ref r),y6,none,none,none]) ⟨L2.Same.refl G,_,rfl⟩ (fun i σ J _ hp=>.of (hp.1 _ _ eg)) (fun i y σ J hy hp=>?_) fun σ J hp=>?_⟩
  ·obtain ⟨sJ,y6,rfl⟩:=hp
   obtain ⟨hyo,hyc⟩:=hall2 y (ye hy)
   have hLJ:=hLS.same sJ
   have f30:=hDr.few
   ext
   refine ⟨p,x',ss,ns,tps,qs,.ref r,y,rfl,hLJ.ea.wb.web,hL.a,qeI hO (qeH hT hDr) hLJ.ea.pn hrp hLJ.pl (by omega),qeG hO hT hLJ.pl hDr,hyo.same sJ,by rw [qdA hyo.1 sJ];exact hyc,fun J2 s2=>⟨_,rfl,?_⟩⟩
   refine yq ?_
   exact ⟨sJ.trans s2,_,rfl⟩
  ·obtain ⟨sJ,y6,rfl⟩:=hp
   show TC5 _ _ _
   rw [hTC5]
   exact ⟨fun u H' h=>h,x',p,n,l,r,ss,ns,ts,us,tps,qs,_,_,_,_,rfl,hLS.same sJ⟩
end
theorem all_mk {l:W.OpenLaw} {w:World} {K:W.Frag} {h:Heap} {mg:Str→Option Value} {fa Cw C0 C1 C2 C3 C4 C5 C6 C7:Addr} {ty0 ty1 ty2:Tok} (X:K.In h) (G:h.Ns mainGlobals mg) (hfa:mg "law"=some (.ref fa))
  (C0_:W.nsIn K mainGlobals "NoName"=some (some (.ref C0)))
  (C1_:W.nsIn K mainGlobals "Twice"=some (some (.ref C1)))
  (C2_:W.nsIn K mainGlobals "NoPlace"=some (some (.ref C2)))
  (C3_:W.nsIn K mainGlobals "NoTie"=some (some (.ref C3)))
  (C4_:W.nsIn K mainGlobals "TooMany"=some (some (.ref C4)))
  (C5_:W.nsIn K mainGlobals "NoPairs"=some (some (.ref C5)))
  (C6_:W.nsIn K mainGlobals "NoRow"=some (some (.ref C6)))
  (C7_:W.nsIn K mainGlobals "OnceError"=some (some (.ref C7)))
  (Cw_:W.nsIn K mainGlobals "Web"=some (some (.ref Cw)))
  (h_are_pairs:FG K "are_pairs" jL)
  (h_partners_in:FG K "partners_in" ju)
  (h_is_row:FG K "is_row" qaq)
  (h_are_unlike_places:FG K "are_unlike_places" qG)
  (h_goes_by_turns:FG K "goes_by_turns" qD)
  (h_can_turn:FG K "can_turn" zg)
  (h_turned:FG K "turned" zV)
  (h_is_name:FG K "is_name" zm)
  (h_has_bit:FG K "has_bit" zB)
  (h_is_place:FG K "is_place" za)
  (h_are_two_places:FG K "are_two_places" qP)
  (h_numbers_of:FG K "numbers_of" jD)
  (h_near_of:FG K "near_of" zC)
  (h_l_at:FG K "_law_at" qbJ)
  (h_l_box:FG K "_law_box" qaW)
  (h_l_take:FG K "_law_take" qao)
  (h_l_names:FG K "_law_names" jI)
  (h_l_web:FG K "_law_web" qaX)
  (h_l_more_ties:FG K "_law_more_ties" je)
  (h_l_tied:FG K "_law_tied" qap)
  (h_l_pairs:FG K "_law_pairs" zG)
  (h_l_partners:FG K "_law_partners" jF)
  (h_l_rising:FG K "_law_rising" zf)
  (h_l_is_row:FG K "_law_is_row" zh)
  (h_l_is_free:FG K "_law_is_free" jN)
  (h_l_walk:FG K "_law_walk" qar)
  (h_l_flipped:FG K "_law_flipped" jO)
  (h_l_right:FG K "_law_right" zH)
  (h_l_very:FG K "_law_very" zT)
  (h_l_refused:FG K "_law_refused" jP)
  (h_l_asked:FG K "_law_asked" zI)
  (h_law:FG K "law" qal)
  (h_i0:FM K C0 "__init__" "NoName.__init__" jr)
  (h_i1:FM K C1 "__init__" "Twice.__init__" jA)
  (h_i2:FM K C2 "__init__" "NoPlace.__init__" jg)
  (h_i3:FM K C3 "__init__" "NoTie.__init__" jB)
  (h_i4:FM K C4 "__init__" "TooMany.__init__" jh)
  (h_i5:FM K C5 "__init__" "NoPairs.__init__" ji)
  (h_i6:FM K C6 "__init__" "NoRow.__init__" jC)
  (h_i7:FC K C7 "__init__" "OnceError.__init__" qO)
  (h_iw:FM K Cw "__init__" "Web.__init__" zb)
  (h_m_ties:FM K Cw "ties" "Web.ties" ze)
  (h_m_has_place:FM K Cw "has_place" "Web.has_place" q9)
  (h_m_has_tie:FM K Cw "has_tie" "Web.has_tie" jt)
  (h_m_number_of:FM K Cw "number_of" "Web.number_of" jc)
  (h_m_beside:FM K Cw "beside" "Web.beside" jE)
  (h_m_bits_beside:FM K Cw "bits_beside" "Web.bits_beside" qM)
  (h_m_tied:FM K Cw "tied" "Web.tied" zc)
  (h_m_names_in:FM K Cw "names_in" "Web.names_in" qW)
  (X0:XL K C0 (.ref C7::qaV))
  (q0:XQ K C0)
  (X1:XL K C1 (.ref C7::qaV))
  (q1:XQ K C1)
  (X2:XL K C2 (.ref C7::qaV))
  (q2:XQ K C2)
  (X3:XL K C3 (.ref C7::qaV))
  (q3:XQ K C3)
  (X4:XL K C4 (.ref C7::qaV))
  (q4:XQ K C4)
  (X5:XL K C5 (.ref C7::qaV))
  (q5:XQ K C5)
  (X6:XL K C6 (.ref C7::qaV))
  (q6:XQ K C6)
  (X7:XL K C7 qaV)
  (q7:XQ K C7)
  (y0:W.findIn K (.ref C0) "found"=some none)
  (y1:W.findIn K (.ref C1) "name"=some none)
  (y2:W.findIn K (.ref C2) "found"=some none)
  (y3:W.findIn K (.ref C3) "found"=some none)
  (y4:W.findIn K (.ref C4) "many"=some none)
  (y5:W.findIn K (.ref C5) "found"=some none)
  (y6:W.findIn K (.ref C6) "found"=some none)
  (mo0:W.mroIn K C0 (.ref C7)=some true)
  (mo1:W.mroIn K C1 (.ref C7)=some true)
  (mo2:W.mroIn K C2 (.ref C7)=some true)
  (mo3:W.mroIn K C3 (.ref C7)=some true)
  (mo4:W.mroIn K C4 (.ref C7)=some true)
  (mo5:W.mroIn K C5 (.ref C7)=some true)
  (mo6:W.mroIn K C6 (.ref C7)=some true)
  (nd:([C0,C1,C2,C3,C4,C5,C6]++[C7]).Nodup)
  (r1:W.readsIn K C7 (.type "type")=true)
  (r3:W.specialIn K (.ref C7) "__getattribute__"=some (some (.builtin "type.__getattribute__")))
  (v1:W.findIn K (.type "type") "__getattribute__"=some (some (.builtin "type.__getattribute__")))
  (v3:W.subIn K (.type "type") (.type "type")=some true)
  (v4:W.findCls K (.type "ValueError") (.type "type") "__init__"=some (.val (.builtin "ValueError.__init__")))
  (w1:W.plainGet K Cw Str.empty=true)
  (w2:W.hasDictIn K Cw=true)
  (w3:W.plainOver K Cw=true)
  (w4:W.findIn K (.ref Cw) "__setattr__"=some (some (.builtin "object.__setattr__")))
  (w5:W.makesIn K Cw=true)
  (w6:W.keepIn K (.ref Cw)=true)
  (w7:W.findIn K (.ref Cw) "numbers"=some none)
  (w8:W.findIn K (.ref Cw) "order"=some none)
  (w9:W.findIn K (.ref Cw) "near"=some none)
  (w16:W.specialIn K (.builtin "object.__class__") "__get__"=some (some (.builtin "getset_descriptor.__get__")))
  (w17:W.takesIn K (.builtin "object.__class__")=some true)
  (zrep:W.nsIn K mainGlobals "repr"=some none)
  (zzip:W.nsIn K mainGlobals "zip"=some none)
  (smo:(K.lookup sysModules).isSome=true)
  (mr6:W.mroIn K C6 (.ref C6)=some true)
  (z0:W.nsIn K mainGlobals "len"=some none)
  (z1:W.nsIn K mainGlobals "int"=some none)
  (z2:W.nsIn K mainGlobals "enumerate"=some none)
  (z3:W.nsIn K mainGlobals "all"=some none)
  (z4:W.nsIn K mainGlobals "max"=some none)
  (z5:W.nsIn K mainGlobals "min"=some none)
  (z6:W.nsIn K mainGlobals "isinstance"=some none)
  (z7:W.nsIn K mainGlobals "bool"=some none)
  (z8:W.nsIn K mainGlobals "str"=some none)
  (z9:W.nsIn K mainGlobals "range"=some none)
  (z10:W.nsIn K mainGlobals "list"=some none)
  (z11:W.nsIn K mainGlobals "tuple"=some none)
  (z12:W.nsIn K mainGlobals "ValueError"=some none)
  (u0:W.nsIn K mainGlobals "LONGEST_NAME"=some (some (.int 6 ty0)))
  (u1:W.nsIn K mainGlobals "MOST_PLACES"=some (some (.int 14 ty1)))
  (u2:W.nsIn K mainGlobals "MOST_TIES"=some (some (.int 30 ty2))) :
  ∃ fd:FuncData,(∀ (s:Shared) (v:Value),BindsTo s fd ⟨[v],[]⟩ [("_law_script",v)])∧∀ base:Heap,K.In base→base.Ns mainGlobals mg→FnOk l.prog w K mg base CX0 15 fa fd ["_law_script"] (qeE K):=by
 obtain ⟨f_are_pairs,e_are_pairs,a_are_pairs,F_Qaa⟩:=h_are_pairs
 obtain ⟨f_partners_in,e_partners_in,a_partners_in,F_Qbe⟩:=h_partners_in
 obtain ⟨f_is_row,e_is_row,a_is_row,F_Qai⟩:=h_is_row
 obtain ⟨f_are_unlike_places,e_are_unlike_places,a_are_unlike_places,F_Qac⟩:=h_are_unlike_places
 obtain ⟨f_goes_by_turns,e_goes_by_turns,a_goes_by_turns,F_Qae⟩:=h_goes_by_turns
 obtain ⟨f_can_turn,e_can_turn,a_can_turn,F_Qad⟩:=h_can_turn
 obtain ⟨f_turned,e_turned,a_turned,F_Qbf⟩:=h_turned
 obtain ⟨f_is_name,e_is_name,a_is_name,F_Qag⟩:=h_is_name
 obtain ⟨f_has_bit,e_has_bit,a_has_bit,F_Qaf⟩:=h_has_bit
 obtain ⟨f_is_place,e_is_place,a_is_place,F_Qah⟩:=h_is_place
 obtain ⟨f_are_two_places,e_are_two_places,a_are_two_places,F_Qab⟩:=h_are_two_places
 obtain ⟨f_numbers_of,e_numbers_of,a_numbers_of,F_Qbd⟩:=h_numbers_of
 obtain ⟨f_near_of,e_near_of,a_near_of,F_Qbc⟩:=h_near_of
 obtain ⟨f_l_at,e_l_at,a_l_at,F_Qak⟩:=h_l_at
 obtain ⟨f_l_box,e_l_box,a_l_box,F_Qal⟩:=h_l_box
 obtain ⟨f_l_take,e_l_take,a_l_take,F_Qaw⟩:=h_l_take
 obtain ⟨f_l_names,e_l_names,a_l_names,F_Qaq⟩:=h_l_names
 obtain ⟨f_l_web,e_l_web,a_l_web,F_Qba⟩:=h_l_web
 obtain ⟨f_l_more_ties,e_l_more_ties,a_l_more_ties,F_Qap⟩:=h_l_more_ties
 obtain ⟨f_l_tied,e_l_tied,a_l_tied,F_Qax⟩:=h_l_tied
 obtain ⟨f_l_pairs,e_l_pairs,a_l_pairs,F_Qar⟩:=h_l_pairs
 obtain ⟨f_l_partners,e_l_partners,a_l_partners,F_Qas⟩:=h_l_partners
 obtain ⟨f_l_rising,e_l_rising,a_l_rising,F_Qav⟩:=h_l_rising
 obtain ⟨f_l_is_row,e_l_is_row,a_l_is_row,F_Qao⟩:=h_l_is_row
 obtain ⟨f_l_is_free,e_l_is_free,a_l_is_free,F_Qan⟩:=h_l_is_free
 obtain ⟨f_l_walk,e_l_walk,a_l_walk,F_Qaz⟩:=h_l_walk
 obtain ⟨f_l_flipped,e_l_flipped,a_l_flipped,F_Qam⟩:=h_l_flipped
 obtain ⟨f_l_right,e_l_right,a_l_right,F_Qau⟩:=h_l_right
 obtain ⟨f_l_very,e_l_very,a_l_very,F_Qay⟩:=h_l_very
 obtain ⟨f_l_refused,e_l_refused,a_l_refused,F_Qat⟩:=h_l_refused
 obtain ⟨f_l_asked,e_l_asked,a_l_asked,F_Qaj⟩:=h_l_asked
 obtain ⟨f_law,e_law,a_law,F_Qbb⟩:=h_law
 obtain ⟨f_i0,e_i0,a_i0,n_i0,F_i0⟩:=h_i0
 obtain ⟨f_i1,e_i1,a_i1,n_i1,F_i1⟩:=h_i1
 obtain ⟨f_i2,e_i2,a_i2,n_i2,F_i2⟩:=h_i2
 obtain ⟨f_i3,e_i3,a_i3,n_i3,F_i3⟩:=h_i3
 obtain ⟨f_i4,e_i4,a_i4,n_i4,F_i4⟩:=h_i4
 obtain ⟨f_i5,e_i5,a_i5,n_i5,F_i5⟩:=h_i5
 obtain ⟨f_i6,e_i6,a_i6,n_i6,F_i6⟩:=h_i6
 obtain ⟨f_i7,e_i7,a_i7,F_i7⟩:=h_i7
 obtain ⟨f_iw,e_iw,a_iw,n_iw,F_iw⟩:=h_iw
 obtain ⟨f_m_ties,e_m_ties,a_Qbn,n_Qbn,F_Qbn⟩:=h_m_ties
 obtain ⟨f_m_has_place,e_m_has_place,a_Qbi,n_Qbi,F_Qbi⟩:=h_m_has_place
 obtain ⟨f_m_has_tie,e_m_has_tie,a_Qbj,n_Qbj,F_Qbj⟩:=h_m_has_tie
 obtain ⟨f_m_number_of,e_m_number_of,a_Qbl,n_Qbl,F_Qbl⟩:=h_m_number_of
 obtain ⟨f_m_beside,e_m_beside,a_Qbg,n_Qbg,F_Qbg⟩:=h_m_beside
 obtain ⟨f_m_bits_beside,e_m_bits_beside,a_Qbh,n_Qbh,F_Qbh⟩:=h_m_bits_beside
 obtain ⟨f_m_tied,e_m_tied,a_Qbm,n_Qbm,F_Qbm⟩:=h_m_tied
 obtain ⟨f_m_names_in,e_m_names_in,a_Qbk,n_Qbk,F_Qbk⟩:=h_m_names_in
 have e:=hfa.symm.trans (W.mg_of X G a_law)
 cases e
 have Y0:XAt K C0:=qcm X0 qaA q0 w16 w17
 have Y1:XAt K C1:=qcm X1 qaA q1 w16 w17
 have Y2:XAt K C2:=qcm X2 qaA q2 w16 w17
 have Y3:XAt K C3:=qcm X3 qaA q3 w16 w17
 have Y4:XAt K C4:=qcm X4 qaA q4 w16 w17
 have Y5:XAt K C5:=qcm X5 qaA q5 w16 w17
 have Y6:XAt K C6:=qcm X6 qaA q6 w16 w17
 have Y7:XAt K C7:=qcm X7 qd4 q7 w16 w17
 obtain ⟨kt1,kt2,kt3,kt4⟩:=kits nd (fun i hi=>match i,hi with | 0,_=>X0 | 1,_=>X1 | 2,_=>X2 | 3,_=>X3 | 4,_=>X4 | 5,_=>X5 | 6,_=>X6 | n + 7,h=>absurd h (by simp only [List.length_cons,List.length_nil];omega)) X7
 have wcl:Cls K Cw:=⟨w1,w2,w3,w4⟩
 have T:Txt K mg (fun i=>([C0,C1,C2,C3,C4,C5,C6]:List Addr).getD i C7) Cw:=⟨W.mg_none_of X G z0,
  W.mg_none_of X G z1,
  W.mg_none_of X G z2,
  W.mg_none_of X G z3,
  W.mg_none_of X G z4,
  W.mg_none_of X G z5,
  W.mg_none_of X G z6,
  W.mg_none_of X G z7,
  W.mg_none_of X G z8,
  W.mg_none_of X G z9,
  W.mg_none_of X G z10,
  W.mg_none_of X G z11,
  W.mg_none_of X G z12,
  ⟨ty0,W.mg_of X G u0⟩,
  ⟨ty1,W.mg_of X G u1⟩,
  ⟨ty2,W.mg_of X G u2⟩,
  W.mg_of X G C0_,
  W.mg_of X G C1_,
  W.mg_of X G C2_,
  W.mg_of X G C3_,
  W.mg_of X G C4_,
  W.mg_of X G C5_,
  W.mg_of X G C6_,
  W.mg_of X G C7_,
  ⟨v1,v3,v4⟩,
  fun i hi=>match i,hi with | 0,_=>Y0 | 1,_=>Y1 | 2,_=>Y2 | 3,_=>Y3 | 4,_=>Y4 | 5,_=>Y5 | 6,_=>Y6 | 7,_=>Y7 | n + 8,h=>absurd h (by omega),
  fun i hi=>match i,hi with | 0,_=>y0 | 1,_=>y1 | 2,_=>y2 | 3,_=>y3 | 4,_=>y4 | 5,_=>y5 | 6,_=>y6 | n + 7,h=>absurd h (by omega),
  kt1,
  kt3,
  fun i hi=>match i,hi with | 0,_=>mo0 | 1,_=>mo1 | 2,_=>mo2 | 3,_=>mo3 | 4,_=>mo4 | 5,_=>mo5 | 6,_=>mo6 | n + 7,h=>absurd h (by omega),
  wcl,
  w7,
  w8,
  w9,
  W.mg_of X G Cw_,
  W.mg_none_of X G zrep,
  Option.isSome_iff_exists.mp smo,
  W.mg_none_of X G zzip⟩
 obtain ⟨oc,od,kV,doc,pm,an,cd,ct,sl,rfl,lk,hc⟩:=F_Qbb.ex
 refine ⟨W.fnOf "law" "law" (qo qal) (qj qal) (qe qal) .none kV doc pm an cd ct,fun s v=>.of_eq rfl,fun base _ _=>?_⟩
 have d_once:CMethOk l.prog w K mg base CX0 1 C7 "OnceError" "__init__" ["self", "text"] (qaN K):=fc_mk X G C7_ r1 a_i7 r3 F_i7 (ok_once F_i7 T)
 have d0:XMakeOk l.prog w K mg base 2 C0 "NoName" ["self", "found"] (spX C0 (qa3 0)):=qcO X G C0_ Y0 q0 a_i0 n_i0 F_i0 (ok_NoName F_i0 T d_once)
 have d1:XMakeOk l.prog w K mg base 2 C1 "Twice" ["self", "name"] (spX C1 (qa3 1)):=qcO X G C1_ Y1 q1 a_i1 n_i1 F_i1 (ok_Twice F_i1 T d_once)
 have d2:XMakeOk l.prog w K mg base 2 C2 "NoPlace" ["self", "found"] (spX C2 (qa3 2)):=qcO X G C2_ Y2 q2 a_i2 n_i2 F_i2 (ok_NoPlace F_i2 T d_once)
 have d3:XMakeOk l.prog w K mg base 2 C3 "NoTie" ["self", "found"] (spX C3 (qa3 3)):=qcO X G C3_ Y3 q3 a_i3 n_i3 F_i3 (ok_NoTie F_i3 T d_once)
 have d4:XMakeOk l.prog w K mg base 2 C4 "TooMany" ["self", "many"] (spX C4 (qa3 4)):=qcO X G C4_ Y4 q4 a_i4 n_i4 F_i4 (ok_TooMany F_i4 T d_once)
 have d5:XMakeOk l.prog w K mg base 2 C5 "NoPairs" ["self", "found"] (spX C5 (qa3 5)):=qcO X G C5_ Y5 q5 a_i5 n_i5 F_i5 (ok_NoPairs F_i5 T d_once)
 have d6:XMakeOk l.prog w K mg base 2 C6 "NoRow" ["self", "found"] (spX C6 (qa3 6)):=qcO X G C6_ Y6 q6 a_i6 n_i6 F_i6 (ok_NoRow F_i6 T d_once)
 have fg:=@fg_mk l.prog w K mg base h
 have fm:=@fm_mk l.prog w K mg base
 have fw:=@fw_mk l.prog w K mg base h
 have d_name:=fg X G a_is_name F_Qag (ok_name F_Qag T)
 have d_place:=fg X G a_is_place F_Qah (ok_place F_Qah d_name)
 have d_two:=fg X G a_are_two_places F_Qab (ok_two F_Qab T d_place)
 have d_bit:=fg X G a_has_bit F_Qaf (ok_bit F_Qaf)
 have d_nums:=fg X G a_numbers_of F_Qbd (ok_nums F_Qbd T d_name d0 d1 d4)
 have d_near:=fg X G a_near_of F_Qbc (ok_near F_Qbc T d_two d_bit d3 d4)
 have o_web:=ok_web F_iw T d_nums d_near
 have q_web:MakeOk l.prog w K mg base CX0 5 Cw "Web" ["self", "names", "ties"] (fun vs H Q _=>qeC (fun i=>([C0,C1,C2,C3,C4,C5,C6]:List Addr).getD i C7) Cw vs H Q E0):=fw X G Cw_ w5 w6 a_iw n_iw F_iw o_web.quiet
 have m_has:=fm wcl a_Qbi n_Qbi F_Qbi (ok_has F_Qbi T d_place)
 have o_num:=ok_num F_Qbl T m_has d2
 have m_num:=fm wcl a_Qbl n_Qbl F_Qbl o_num
 have o_bb:=ok_bb F_Qbh T m_num
 have m_bb:=fm wcl a_Qbh n_Qbh F_Qbh o_bb
 have m_nin:=fm wcl a_Qbk n_Qbk F_Qbk (ok_nin F_Qbk T d_bit)
 have o_bs:=ok_bs F_Qbg T m_bb m_nin
 have q_bs:=fm wcl a_Qbg n_Qbg F_Qbg o_bs.quiet
 have o_tied:=ok_tied F_Qbm T m_bb m_num d_bit
 have q_tied:=fm wcl a_Qbm n_Qbm F_Qbm o_tied.quiet
 have m_ts:=fm wcl a_Qbn n_Qbn F_Qbn (ok_ts F_Qbn T q_bs)
 have m_ht:=fm wcl a_Qbj n_Qbj F_Qbj (ok_ht F_Qbj T d_two q_tied)
 have d_ap:=fg X G a_are_pairs F_Qaa (ok_ap F_Qaa T m_ht)
 have d_pn:=fg X G a_partners_in F_Qbe (ok_pn F_Qbe T d5 d_ap)
 have d_ul:=fg X G a_are_unlike_places F_Qac (ok_ul F_Qac T m_has)
 have d_gt:=fg X G a_goes_by_turns F_Qae (ok_gt F_Qae T m_ht)
 have o_ir:=ok_ir F_Qai T d_pn d_ul d_gt
 have d_ir:=fg X G a_is_row F_Qai o_ir
 have o_ct:=ok_ct F_Qad T d_pn d_ir
 have d_ct:=fg X G a_can_turn F_Qad o_ct
 have o_tu:=ok_tuG F_Qbf T d6 d_pn m_ts d_ct
 have d_tu:=fg X G a_turned F_Qbf o_tu
 have q_tu:=fg X G a_turned F_Qbf o_tu.quiet
 have d_at:=fg X G a_l_at F_Qak (ok_ce F_Qak T)
 have d_bx:=fg X G a_l_box F_Qal (ok_pu F_Qal T)
 have d_tk:=fg X G a_l_take F_Qaw (ok_tkp F_Qaw T)
 have d_nm:=fg X G a_l_names F_Qaq (ok_nmA F_Qaq T d_tk)
 have d_mt:=fg X G a_l_more_ties F_Qap (ok_mtA F_Qap T d_tk)
 have d_wb:=fg X G a_l_web F_Qba (ok_wbA F_Qba T d_at d_bx d_tk d_nm d_mt)
 have d_td:=fg X G a_l_tied F_Qax (ok_tdA F_Qax T)
 have d_pr:=fg X G a_l_pairs F_Qar (ok_prA F_Qar T d_tk)
 have d_pt:=fg X G a_l_partners F_Qas (ok_ptA F_Qas T)
 have d_lir:=fg X G a_l_is_row F_Qao (ok_lir F_Qao T d_td)
 have d_lfr:=fg X G a_l_is_free F_Qan (ok_lfr F_Qan T)
 have d_wk:=fg X G a_l_walk F_Qaz (ok_wk F_Qaz T d_tk d_td) (fun _ _ _ _ _ _ us hl=>(match us,hl with | [_,_,_,_,_],_=>rfl))
 have w_vy:DefOkW l.prog w K mg base 1 "_law_very" ["_law_found", "_law_thing"] qgN:=⟨_,_,ok_vy F_Qay T,W.mg_of X G a_l_very,F_Qay.kp,F_Qay.binds (fun _ _ _ _ _ _ us hl=>(match us,hl with | [_,_],_=>rfl))⟩
 have d_rs:=fg X G a_l_rising F_Qav (ok_rsG F_Qav T)
 have d_fp:=fg X G a_l_flipped F_Qam (ok_fp F_Qam T d_pt d_rs)
 have d_rg:=fg X G a_l_right F_Qau (ok_rgC F_Qau T d_fp d_pt d_rs q_tu)
 have d_rf:=fg X G a_l_refused F_Qat (ok_rfC F_Qat T mr6 (kt2 6 (by simp only [List.length_cons,List.length_nil];omega)) d_tu w_vy)
 have d_as:=fg X G a_l_asked F_Qaj (ok_asC F_Qaj T d_pt d_lir d_lfr d_rg d_rf) (fun _ _ _ _ _ _ us hl=>(match us,hl with | [_,_,_,_,_],_=>rfl))
 exact ok_lawC F_Qbb T d_wb q_web d_bx d_at d_pr d_pt d_wk d_rf d_as
theorem walk {l:PySem.W.OpenLaw} {q:Program} {loose:List Str} {XP:(Str→Option Value)→Heap→Prop} {YP:World→Heap→Prop} {d:DefRec} {K:Params→yg} (hn:l.most=some 63) (hdf:d.params.defaults=[])
  (hY:∀ (w:World) (h:Heap),YP w h→(K w.params).In h)
  (F:∀ (w:World) (mg:Str→Option Value) (fa:Addr) (h:Heap),(K w.params).In h→h.Ns mainGlobals mg→mg d.name=some (.ref fa) →
   ∃ fd:FuncData,(∀ (s:Shared) (u:Value),BindsTo s fd ⟨[u],[]⟩ [("_law_script",u)])∧∀ base:Heap,(K w.params).In base→base.Ns mainGlobals mg→FnOk l.prog w (K w.params) mg base CX0 15 fa fd ["_law_script"] (qeE (K w.params))) :
  PySem.W.WalkO q loose XP YP l.row.toRowW d [] (fun f vs=>PySem.call f vs):=
 L2.walk_of (n:=63) (k:=15) (x:="_law_script") (CX:=fun _=>CX0) (sp:=fun w=>qeE (K w.params)) hn (by decide) hdf ⟨rfl,by decide,by decide,rfl⟩ hY F (fun _ _ a ns hl _ hS=>⟨a,ns,rfl,hS,hl,fun _=>rfl⟩) fun _ _ _ _ _ z=>z
end K23
namespace Hd
open PySem PySem.W PySem.Calls PyProof.Rows
def qgu (tb:String→Option Builtin) (p:Program) (w:World) (n₀:Nat) (ann:Option Value):Nat→SharedT→Thread→Option SharedT
 | 0,_,_=>none
 | n + 1,s,t=>match through t with
  | true=>some s
  | false=>match stepOk n₀ ann t with
   | false=>none
   | true=>match stepT (denote tb) p w s t with
    | some (s',t')=>qgu tb p w n₀ ann n s' t'
    | none=>none
theorem qfm {tb:String→Option Builtin} {p:Program} {w:World} {n₀:Nat} {ann:Option Value}:∀ {n:Nat} {s s':SharedT} {t:Thread},qgu tb p w n₀ ann n s t=some s'→topRun tb p w n₀ ann n s.abs t=some s'.abs
 | 0,_,_,_,h=>by cases h
 | n + 1,s,s',t,h=>by
  unfold qgu at h
  unfold topRun
  cases he:through t with
  | true=>rw [he] at h;cases h;rfl
  | false =>
   rw [he] at h
   cases hk:stepOk n₀ ann t with
   | false=>rw [hk] at h;cases h
   | true =>
    rw [hk] at h
    cases hs:stepT (denote tb) p w s t with
    | none=>rw [hs] at h;cases h
    | some r=>obtain ⟨s₂,t₂⟩:=r;rw [hs] at h;rw [stepT_spec hs];exact qfm h
def qcZ:List Obj→Nat→BT→BT
 | [],_,t=>t
 | o::r,n,t=>qcZ r (n + 1) (t.ins n o)
noncomputable def qfC (P:Params) (os:OsState):SharedT:=⟨qcZ (boot_heap P).objs.toList 0 .nil,(boot_heap P).objs.size,(boot_heap P).life,Array.mk [],boot_drawn,boot_toks,os⟩
theorem boot_abs (P:Params):absHeap (qcZ (boot_heap P).objs.toList 0 .nil) (boot_heap P).objs.size (boot_heap P).life=boot_heap P:=by kernel_rfl
noncomputable def lookT (p q:Program) (Xt:Shared→Bool) {α:Type} (Yf:Shared→α) (N:Nat) (w:World) (os:OsState):=match (boot_heap w.params).isNs mainGlobals&&(Array.mk []:Array GenState).size==0 with
 | true=>(qgu treeTable p w (boot_heap w.params).objs.size ((boot_heap w.params).nsMap mainGlobals "__annotations__") N (qfC w.params os) (topStub p)).bind fun s=>match staticsOk (importedModules p.main.body) (boot_heap w.params) s.abs.heap&&namesBound p s.abs.heap&&gensDone s.abs&&laidKept (boot_heap w.params) s.abs.heap with
   | true=>some (openSeen q [] (importedModules p.main.body) Xt true s.abs,Yf s.abs)
   | false=>none
 | false=>none
theorem left_of {p q:Program} {Xt:Shared→Bool} {α:Type} {Yf:Shared→α} {Ya:World→α} {N:Nat} (e:opening p=plainProg p.main.scope.names) (hN:Nat.ble 600 N=true) (f:∀ s,fenceModules? p s=some s)
  (h:∀ w os,lookT p q Xt Yf N w os=some (openGood q [],Ya w)):LeftO p q [] Xt Yf Ya N:=fun w=>by
 obtain ⟨⟨h0,gs,d,k,os⟩,e1,e2⟩:=yn.mp (boot_open e hN f w)
 obtain ⟨rfl,rfl,rfl,rfl⟩:h0=boot_heap w.params∧gs=Array.mk []∧d=boot_drawn∧k=boot_toks:=by simpa using e2
 have hh:=h w os
 unfold lookT at hh
 unfold openEnds
 rw [e1]
 show (topFrom treeTable p w N _).map _=_
 unfold topFrom
 dsimp only
 split at hh
 ·rename_i z
  rw [z]
  obtain ⟨s,hs,q2⟩:=Option.bind_eq_some_iff.mp hh
  have r:=qfm hs
  have ba:(qfC w.params os).abs=⟨boot_heap w.params,Array.mk [],boot_drawn,boot_toks,os⟩:=by
   unfold qfC SharedT.abs
   dsimp only
   rw [boot_abs]
  rw [ba] at r
  dsimp only
  rw [r]
  split at q2
  ·rename_i z2
   show ((match staticsOk (importedModules p.main.body) (boot_heap w.params) s.abs.heap&&namesBound p s.abs.heap&&gensDone s.abs&&laidKept (boot_heap w.params) s.abs.heap with | true=>some s.abs | false=>none):Option Shared).map _=_
   rw [z2]
   exact q2
  ·cases q2
 ·cases hh
end Hd
namespace K23
open PySem L2 PyProof.Rows PySem.W
abbrev NN:Nat:=20000
noncomputable def Q:Program:=view PySem.Challenge.pw_onceroad_k23_rows_turned [0,2,3,4,5,6,7,8,9,11,12,14,15,16,17,18,20,21,23,24,25,26,27,28,29,30,32,33,34,35,36,37,38,39,40,41,42,43,44,45,46,47,48,49,50]
def en (P:Params) (k:Str) (t:Tok) (v:Value):DictEntry:=⟨PyData.keyHash P k,.str k t,v⟩
noncomputable def Kf (P:Params):Frag:=
 (nat_lit 1,(⟨(.type "dict"),none,.dict #[en P "builtins" 162 (.ref 4),en P "__main__" 163 (.ref 5)] 2,#[]⟩:Obj)) ::
 (nat_lit 2,(⟨.none,none,.dict #[] 0,#[]⟩:Obj)) ::
 (nat_lit 3,(⟨(.type "dict"),none,.dict #[en P "__name__" 165 (.str "law_onceroad_k23_rows_turned" 687),en P "__doc__" 166 .none,en P "__package__" 167 .none,en P "__loader__" 168 (.builtin "__main__.__loader__#opaque"),en P "__spec__" 169 .none,en P "__annotations__" 170 (.ref 6),en P "__builtins__" 171 (.ref 4),en P "__file__" 173 (.str "/claim/cut.py" 172),en P "__cached__" 174 .none,en P "_wall" 193 (.ref 21),en P "OnceError" 221 (.ref 38),en P "NoName" 246 (.ref 58),en P "Twice" 271 (.ref 77),en P "NoPlace" 296 (.ref 96),en P "NoTie" 321 (.ref 115),en P "TooMany" 346 (.ref 134),en P "NoPairs" 371 (.ref 153),en P "NoRow" 396 (.ref 172),en P "are_pairs" 408 (.ref 181),en P "partners_in" 418 (.ref 188),en P "is_row" 430 (.ref 195),en P "are_unlike_places" 440 (.ref 202),en P "goes_by_turns" 446 (.ref 207),en P "can_turn" 458 (.ref 214),en P "turned" 464 (.ref 219),en P "LONGEST_NAME" 468 (.int 6 467),en P "is_name" 474 (.ref 224),en P "MOST_PLACES" 478 (.int 14 477),en P "MOST_TIES" 480 (.int 30 479),en P "Web" 640 (.ref 351),en P "has_bit" 648 (.ref 362),en P "is_place" 656 (.ref 369),en P "are_two_places" 665 (.ref 376),en P "numbers_of" 674 (.ref 383),en P "near_of" 686 (.ref 390),en P "_law_at" 696 (.ref 397),en P "_law_box" 703 (.ref 404),en P "_law_take" 714 (.ref 411),en P "_law_names" 720 (.ref 416),en P "_law_web" 732 (.ref 423),en P "_law_more_ties" 738 (.ref 428),en P "_law_tied" 747 (.ref 435),en P "_law_pairs" 760 (.ref 442),en P "_law_partners" 770 (.ref 449),en P "_law_rising" 781 (.ref 456),en P "_law_is_row" 795 (.ref 463),en P "_law_is_free" 805 (.ref 470),en P "_law_walk" 821 (.ref 477),en P "_law_flipped" 834 (.ref 484),en P "_law_right" 851 (.ref 491),en P "_law_very" 860 (.ref 498),en P "_law_refused" 870 (.ref 505),en P "_law_asked" 882 (.ref 512),en P "law" 898 (.ref 519)] 54,#[]⟩:Obj)) ::
 (nat_lit 34,(⟨(.type "code"),none,.fields #[(.str "__init__" 208),(.str "OnceError.__init__" 209),(.str "/claim/cut.py" 210),(.int 7 0),(.int 2 0),(.int 0 0),(.int 0 0),(.int 3 0),(.ref 29),(.bool true),(.int 181 0),(.ref 30),.none,(.ref 31),(.ref 32),(.ref 33),(.int 213 0),(.int 7 0),(.str "/claim/cut.py" 214)],#[]⟩:Obj)) ::
 (nat_lit 35,(⟨(.type "function"),none,.func (fnOf "__init__" "OnceError.__init__" (qo qO) (qj qO) (qe qO) .none .none .none (.str "onceroad.errors" 194) none (.ref 34) .none),#[]⟩:Obj)) ::
 (nat_lit 37,(⟨(.type "dict"),none,.dict #[en P "__module__" 203 (.str "onceroad.errors" 194),en P "__firstlineno__" 207 (.int 5 206),en P "__init__" 215 (.ref 35),en P "__static_attributes__" 216 (.ref 36),en P "__weakref__" 218 (.ref 39),en P "__doc__" 219 .none] 3,#[]⟩:Obj)) ::
 (nat_lit 38,(⟨(.type "type"),none,.cls { name:="OnceError",bases:=[(.type "ValueError")],mro:=[(.ref 38),(.type "ValueError"),(.type "Exception"),(.type "BaseException"),(.type "object")],ns:=37,qualname:="OnceError",hasDict:=true,slotNames:=[],subclasses:=[(.ref 58),(.ref 77),(.ref 96),(.ref 115),(.ref 134),(.ref 153),(.ref 172)],abstract:=false,collection:=none,hasDel:=false },#[(some (.ref 22)),none,(some (.str "OnceError" 196)),(some (.str "OnceError" 204)),(some (.builtin "ValueError.__new__")),(some (.bool true))]⟩:Obj)) ::
 (nat_lit 54,(⟨(.type "code"),none,.fields #[(.str "__init__" 234),(.str "NoName.__init__" 235),(.str "/claim/cut.py" 236),(.int 11 0),(.int 2 0),(.int 0 0),(.int 0 0),(.int 3 0),(.ref 49),(.bool true),(.int 181 0),(.ref 50),.none,(.ref 51),(.ref 52),(.ref 53),(.int 239 0),(.int 11 0),(.str "/claim/cut.py" 240)],#[]⟩:Obj)) ::
 (nat_lit 55,(⟨(.type "function"),none,.func (fnOf "__init__" "NoName.__init__" (qo jr) (qj jr) (qe jr) .none .none .none (.str "onceroad.errors" 194) none (.ref 54) .none),#[]⟩:Obj)) ::
 (nat_lit 57,(⟨(.type "dict"),none,.dict #[en P "__module__" 229 (.str "onceroad.errors" 194),en P "__firstlineno__" 233 (.int 9 232),en P "__init__" 241 (.ref 55),en P "__static_attributes__" 243 (.ref 56),en P "__doc__" 244 .none] 2,#[]⟩:Obj)) ::
 (nat_lit 58,(⟨(.type "type"),none,.cls { name:="NoName",bases:=[(.ref 38)],mro:=[(.ref 58),(.ref 38),(.type "ValueError"),(.type "Exception"),(.type "BaseException"),(.type "object")],ns:=57,qualname:="NoName",hasDict:=true,slotNames:=[],subclasses:=[],abstract:=false,collection:=none,hasDel:=false },#[(some (.ref 42)),none,(some (.str "NoName" 222)),(some (.str "NoName" 230)),(some (.builtin "ValueError.__new__")),(some (.bool true))]⟩:Obj)) ::
 (nat_lit 73,(⟨(.type "code"),none,.fields #[(.str "__init__" 259),(.str "Twice.__init__" 260),(.str "/claim/cut.py" 261),(.int 16 0),(.int 2 0),(.int 0 0),(.int 0 0),(.int 3 0),(.ref 68),(.bool true),(.int 181 0),(.ref 69),.none,(.ref 70),(.ref 71),(.ref 72),(.int 264 0),(.int 16 0),(.str "/claim/cut.py" 265)],#[]⟩:Obj)) ::
 (nat_lit 74,(⟨(.type "function"),none,.func (fnOf "__init__" "Twice.__init__" (qo jA) (qj jA) (qe jA) .none .none .none (.str "onceroad.errors" 194) none (.ref 73) .none),#[]⟩:Obj)) ::
 (nat_lit 76,(⟨(.type "dict"),none,.dict #[en P "__module__" 254 (.str "onceroad.errors" 194),en P "__firstlineno__" 258 (.int 14 257),en P "__init__" 266 (.ref 74),en P "__static_attributes__" 268 (.ref 75),en P "__doc__" 269 .none] 2,#[]⟩:Obj)) ::
 (nat_lit 77,(⟨(.type "type"),none,.cls { name:="Twice",bases:=[(.ref 38)],mro:=[(.ref 77),(.ref 38),(.type "ValueError"),(.type "Exception"),(.type "BaseException"),(.type "object")],ns:=76,qualname:="Twice",hasDict:=true,slotNames:=[],subclasses:=[],abstract:=false,collection:=none,hasDel:=false },#[(some (.ref 61)),none,(some (.str "Twice" 247)),(some (.str "Twice" 255)),(some (.builtin "ValueError.__new__")),(some (.bool true))]⟩:Obj)) ::
 (nat_lit 92,(⟨(.type "code"),none,.fields #[(.str "__init__" 284),(.str "NoPlace.__init__" 285),(.str "/claim/cut.py" 286),(.int 21 0),(.int 2 0),(.int 0 0),(.int 0 0),(.int 3 0),(.ref 87),(.bool true),(.int 181 0),(.ref 88),.none,(.ref 89),(.ref 90),(.ref 91),(.int 289 0),(.int 21 0),(.str "/claim/cut.py" 290)],#[]⟩:Obj)) ::
 (nat_lit 93,(⟨(.type "function"),none,.func (fnOf "__init__" "NoPlace.__init__" (qo jg) (qj jg) (qe jg) .none .none .none (.str "onceroad.errors" 194) none (.ref 92) .none),#[]⟩:Obj)) ::
 (nat_lit 95,(⟨(.type "dict"),none,.dict #[en P "__module__" 279 (.str "onceroad.errors" 194),en P "__firstlineno__" 283 (.int 19 282),en P "__init__" 291 (.ref 93),en P "__static_attributes__" 293 (.ref 94),en P "__doc__" 294 .none] 2,#[]⟩:Obj)) ::
 (nat_lit 96,(⟨(.type "type"),none,.cls { name:="NoPlace",bases:=[(.ref 38)],mro:=[(.ref 96),(.ref 38),(.type "ValueError"),(.type "Exception"),(.type "BaseException"),(.type "object")],ns:=95,qualname:="NoPlace",hasDict:=true,slotNames:=[],subclasses:=[],abstract:=false,collection:=none,hasDel:=false },#[(some (.ref 80)),none,(some (.str "NoPlace" 272)),(some (.str "NoPlace" 280)),(some (.builtin "ValueError.__new__")),(some (.bool true))]⟩:Obj)) ::
 (nat_lit 111,(⟨(.type "code"),none,.fields #[(.str "__init__" 309),(.str "NoTie.__init__" 310),(.str "/claim/cut.py" 311),(.int 26 0),(.int 2 0),(.int 0 0),(.int 0 0),(.int 3 0),(.ref 106),(.bool true),(.int 181 0),(.ref 107),.none,(.ref 108),(.ref 109),(.ref 110),(.int 314 0),(.int 26 0),(.str "/claim/cut.py" 315)],#[]⟩:Obj)) ::
 (nat_lit 112,(⟨(.type "function"),none,.func (fnOf "__init__" "NoTie.__init__" (qo jB) (qj jB) (qe jB) .none .none .none (.str "onceroad.errors" 194) none (.ref 111) .none),#[]⟩:Obj)) ::
 (nat_lit 114,(⟨(.type "dict"),none,.dict #[en P "__module__" 304 (.str "onceroad.errors" 194),en P "__firstlineno__" 308 (.int 24 307),en P "__init__" 316 (.ref 112),en P "__static_attributes__" 318 (.ref 113),en P "__doc__" 319 .none] 2,#[]⟩:Obj)) ::
 (nat_lit 115,(⟨(.type "type"),none,.cls { name:="NoTie",bases:=[(.ref 38)],mro:=[(.ref 115),(.ref 38),(.type "ValueError"),(.type "Exception"),(.type "BaseException"),(.type "object")],ns:=114,qualname:="NoTie",hasDict:=true,slotNames:=[],subclasses:=[],abstract:=false,collection:=none,hasDel:=false },#[(some (.ref 99)),none,(some (.str "NoTie" 297)),(some (.str "NoTie" 305)),(some (.builtin "ValueError.__new__")),(some (.bool true))]⟩:Obj)) ::
 (nat_lit 130,(⟨(.type "code"),none,.fields #[(.str "__init__" 334),(.str "TooMany.__init__" 335),(.str "/claim/cut.py" 336),(.int 31 0),(.int 2 0),(.int 0 0),(.int 0 0),(.int 3 0),(.ref 125),(.bool true),(.int 181 0),(.ref 126),.none,(.ref 127),(.ref 128),(.ref 129),(.int 339 0),(.int 31 0),(.str "/claim/cut.py" 340)],#[]⟩:Obj)) ::
 (nat_lit 131,(⟨(.type "function"),none,.func (fnOf "__init__" "TooMany.__init__" (qo jh) (qj jh) (qe jh) .none .none .none (.str "onceroad.errors" 194) none (.ref 130) .none),#[]⟩:Obj)) ::
 (nat_lit 133,(⟨(.type "dict"),none,.dict #[en P "__module__" 329 (.str "onceroad.errors" 194),en P "__firstlineno__" 333 (.int 29 332),en P "__init__" 341 (.ref 131),en P "__static_attributes__" 343 (.ref 132),en P "__doc__" 344 .none] 2,#[]⟩:Obj)) ::
 (nat_lit 134,(⟨(.type "type"),none,.cls { name:="TooMany",bases:=[(.ref 38)],mro:=[(.ref 134),(.ref 38),(.type "ValueError"),(.type "Exception"),(.type "BaseException"),(.type "object")],ns:=133,qualname:="TooMany",hasDict:=true,slotNames:=[],subclasses:=[],abstract:=false,collection:=none,hasDel:=false },#[(some (.ref 118)),none,(some (.str "TooMany" 322)),(some (.str "TooMany" 330)),(some (.builtin "ValueError.__new__")),(some (.bool true))]⟩:Obj)) ::
 (nat_lit 149,(⟨(.type "code"),none,.fields #[(.str "__init__" 359),(.str "NoPairs.__init__" 360),(.str "/claim/cut.py" 361),(.int 36 0),(.int 2 0),(.int 0 0),(.int 0 0),(.int 3 0),(.ref 144),(.bool true),(.int 181 0),(.ref 145),.none,(.ref 146),(.ref 147),(.ref 148),(.int 364 0),(.int 36 0),(.str "/claim/cut.py" 365)],#[]⟩:Obj)) ::
 (nat_lit 150,(⟨(.type "function"),none,.func (fnOf "__init__" "NoPairs.__init__" (qo ji) (qj ji) (qe ji) .none .none .none (.str "onceroad.errors" 194) none (.ref 149) .none),#[]⟩:Obj)) ::
 (nat_lit 152,(⟨(.type "dict"),none,.dict #[en P "__module__" 354 (.str "onceroad.errors" 194),en P "__firstlineno__" 358 (.int 34 357),en P "__init__" 366 (.ref 150),en P "__static_attributes__" 368 (.ref 151),en P "__doc__" 369 .none] 2,#[]⟩:Obj)) ::
 (nat_lit 153,(⟨(.type "type"),none,.cls { name:="NoPairs",bases:=[(.ref 38)],mro:=[(.ref 153),(.ref 38),(.type "ValueError"),(.type "Exception"),(.type "BaseException"),(.type "object")],ns:=152,qualname:="NoPairs",hasDict:=true,slotNames:=[],subclasses:=[],abstract:=false,collection:=none,hasDel:=false },#[(some (.ref 137)),none,(some (.str "NoPairs" 347)),(some (.str "NoPairs" 355)),(some (.builtin "ValueError.__new__")),(some (.bool true))]⟩:Obj)) ::
 (nat_lit 168,(⟨(.type "code"),none,.fields #[(.str "__init__" 384),(.str "NoRow.__init__" 385),(.str "/claim/cut.py" 386),(.int 41 0),(.int 2 0),(.int 0 0),(.int 0 0),(.int 3 0),(.ref 163),(.bool true),(.int 181 0),(.ref 164),.none,(.ref 165),(.ref 166),(.ref 167),(.int 389 0),(.int 41 0),(.str "/claim/cut.py" 390)],#[]⟩:Obj)) ::
 (nat_lit 169,(⟨(.type "function"),none,.func (fnOf "__init__" "NoRow.__init__" (qo jC) (qj jC) (qe jC) .none .none .none (.str "onceroad.errors" 194) none (.ref 168) .none),#[]⟩:Obj)) ::
 (nat_lit 171,(⟨(.type "dict"),none,.dict #[en P "__module__" 379 (.str "onceroad.errors" 194),en P "__firstlineno__" 383 (.int 39 382),en P "__init__" 391 (.ref 169),en P "__static_attributes__" 393 (.ref 170),en P "__doc__" 394 .none] 2,#[]⟩:Obj)) ::
 (nat_lit 172,(⟨(.type "type"),none,.cls { name:="NoRow",bases:=[(.ref 38)],mro:=[(.ref 172),(.ref 38),(.type "ValueError"),(.type "Exception"),(.type "BaseException"),(.type "object")],ns:=171,qualname:="NoRow",hasDict:=true,slotNames:=[],subclasses:=[],abstract:=false,collection:=none,hasDel:=false },#[(some (.ref 156)),none,(some (.str "NoRow" 372)),(some (.str "NoRow" 380)),(some (.builtin "ValueError.__new__")),(some (.bool true))]⟩:Obj)) ::
 (nat_lit 180,(⟨(.type "code"),none,.fields #[(.str "are_pairs" 399),(.str "are_pairs" 400),(.str "/claim/cut.py" 401),(.int 45 0),(.int 2 0),(.int 0 0),(.int 0 0),(.int 3 0),(.ref 175),(.bool true),(.int 181 0),(.ref 176),.none,(.ref 177),(.ref 178),(.ref 179),(.int 406 0),(.int 45 0),(.str "/claim/cut.py" 407)],#[]⟩:Obj)) ::
 (nat_lit 181,(⟨(.type "function"),none,.func (fnOf "are_pairs" "are_pairs" (qo jL) (qj jL) (qe jL) .none .none .none (.str "onceroad.pairs" 397) none (.ref 180) .none),#[]⟩:Obj)) ::
 (nat_lit 187,(⟨(.type "code"),none,.fields #[(.str "partners_in" 409),(.str "partners_in" 410),(.str "/claim/cut.py" 411),(.int 55 0),(.int 2 0),(.int 0 0),(.int 0 0),(.int 3 0),(.ref 182),(.bool true),(.int 181 0),(.ref 183),.none,(.ref 184),(.ref 185),(.ref 186),(.int 416 0),(.int 55 0),(.str "/claim/cut.py" 417)],#[]⟩:Obj)) ::
 (nat_lit 188,(⟨(.type "function"),none,.func (fnOf "partners_in" "partners_in" (qo ju) (qj ju) (qe ju) .none .none .none (.str "onceroad.pairs" 397) none (.ref 187) .none),#[]⟩:Obj)) ::
 (nat_lit 194,(⟨(.type "code"),none,.fields #[(.str "is_row" 421),(.str "is_row" 422),(.str "/claim/cut.py" 423),(.int 64 0),(.int 3 0),(.int 0 0),(.int 0 0),(.int 3 0),(.ref 189),(.bool true),(.int 181 0),(.ref 190),.none,(.ref 191),(.ref 192),(.ref 193),(.int 428 0),(.int 64 0),(.str "/claim/cut.py" 429)],#[]⟩:Obj)) ::
 (nat_lit 195,(⟨(.type "function"),none,.func (fnOf "is_row" "is_row" (qo qaq) (qj qaq) (qe qaq) .none .none .none (.str "onceroad.rows" 419) none (.ref 194) .none),#[]⟩:Obj)) ::
 (nat_lit 201,(⟨(.type "code"),none,.fields #[(.str "are_unlike_places" 431),(.str "are_unlike_places" 432),(.str "/claim/cut.py" 433),(.int 69 0),(.int 2 0),(.int 0 0),(.int 0 0),(.int 3 0),(.ref 196),(.bool true),(.int 181 0),(.ref 197),.none,(.ref 198),(.ref 199),(.ref 200),(.int 438 0),(.int 69 0),(.str "/claim/cut.py" 439)],#[]⟩:Obj)) ::
 (nat_lit 202,(⟨(.type "function"),none,.func (fnOf "are_unlike_places" "are_unlike_places" (qo qG) (qj qG) (qe qG) .none .none .none (.str "onceroad.rows" 419) none (.ref 201) .none),#[]⟩:Obj)) ::
 (nat_lit 206,(⟨(.type "code"),none,.fields #[(.str "goes_by_turns" 441),(.str "goes_by_turns" 442),(.str "/claim/cut.py" 443),(.int 78 0),(.int 3 0),(.int 0 0),(.int 0 0),(.int 3 0),(.ref 203),(.bool true),(.int 181 0),(.ref 204),.none,.none,.none,(.ref 205),(.int 444 0),(.int 78 0),(.str "/claim/cut.py" 445)],#[]⟩:Obj)) ::
 (nat_lit 207,(⟨(.type "function"),none,.func (fnOf "goes_by_turns" "goes_by_turns" (qo qD) (qj qD) (qe qD) .none .none .none (.str "onceroad.rows" 419) none (.ref 206) .none),#[]⟩:Obj)) ::
 (nat_lit 213,(⟨(.type "code"),none,.fields #[(.str "can_turn" 447),(.str "can_turn" 448),(.str "/claim/cut.py" 449),(.int 84 0),(.int 3 0),(.int 0 0),(.int 0 0),(.int 3 0),(.ref 208),(.bool true),(.int 181 0),(.ref 209),.none,(.ref 210),(.ref 211),(.ref 212),(.int 456 0),(.int 84 0),(.str "/claim/cut.py" 457)],#[]⟩:Obj)) ::
 (nat_lit 214,(⟨(.type "function"),none,.func (fnOf "can_turn" "can_turn" (qo zg) (qj zg) (qe zg) .none .none .none (.str "onceroad.rows" 419) none (.ref 213) .none),#[]⟩:Obj)) ::
 (nat_lit 218,(⟨(.type "code"),none,.fields #[(.str "turned" 459),(.str "turned" 460),(.str "/claim/cut.py" 461),(.int 91 0),(.int 3 0),(.int 0 0),(.int 0 0),(.int 3 0),(.ref 215),(.bool true),(.int 181 0),(.ref 216),.none,.none,.none,(.ref 217),(.int 462 0),(.int 91 0),(.str "/claim/cut.py" 463)],#[]⟩:Obj)) ::
 (nat_lit 219,(⟨(.type "function"),none,.func (fnOf "turned" "turned" (qo zV) (qj zV) (qe zV) .none .none .none (.str "onceroad.rows" 419) none (.ref 218) .none),#[]⟩:Obj)) ::
 (nat_lit 223,(⟨(.type "code"),none,.fields #[(.str "is_name" 469),(.str "is_name" 470),(.str "/claim/cut.py" 471),(.int 99 0),(.int 1 0),(.int 0 0),(.int 0 0),(.int 3 0),(.ref 220),(.bool true),(.int 181 0),(.ref 221),.none,.none,.none,(.ref 222),(.int 472 0),(.int 99 0),(.str "/claim/cut.py" 473)],#[]⟩:Obj)) ::
 (nat_lit 224,(⟨(.type "function"),none,.func (fnOf "is_name" "is_name" (qo zm) (qj zm) (qe zm) .none .none .none (.str "onceroad.names" 465) none (.ref 223) .none),#[]⟩:Obj)) ::
 (nat_lit 237,(⟨(.type "code"),none,.fields #[(.str "__init__" 493),(.str "Web.__init__" 494),(.str "/claim/cut.py" 495),(.int 108 0),(.int 3 0),(.int 0 0),(.int 0 0),(.int 3 0),(.ref 232),(.bool true),(.int 181 0),(.ref 233),.none,(.ref 234),(.ref 235),(.ref 236),(.int 499 0),(.int 108 0),(.str "/claim/cut.py" 500)],#[]⟩:Obj)) ::
 (nat_lit 238,(⟨(.type "function"),none,.func (fnOf "__init__" "Web.__init__" (qo zb) (qj zb) (qe zb) .none .none .none (.str "onceroad.webs" 475) none (.ref 237) .none),#[]⟩:Obj)) ::
 (nat_lit 251,(⟨(.type "code"),none,.fields #[(.str "ties" 509),(.str "Web.ties" 510),(.str "/claim/cut.py" 511),(.int 116 0),(.int 1 0),(.int 0 0),(.int 0 0),(.int 3 0),(.ref 246),(.bool true),(.int 181 0),(.ref 247),.none,(.ref 248),(.ref 249),(.ref 250),(.int 516 0),(.int 116 0),(.str "/claim/cut.py" 517)],#[]⟩:Obj)) ::
 (nat_lit 252,(⟨(.type "function"),none,.func (fnOf "ties" "Web.ties" (qo ze) (qj ze) (qe ze) .none .none .none (.str "onceroad.webs" 475) none (.ref 251) .none),#[]⟩:Obj)) ::
 (nat_lit 265,(⟨(.type "code"),none,.fields #[(.str "has_place" 526),(.str "Web.has_place" 527),(.str "/claim/cut.py" 528),(.int 127 0),(.int 2 0),(.int 0 0),(.int 0 0),(.int 3 0),(.ref 260),(.bool true),(.int 181 0),(.ref 261),.none,(.ref 262),(.ref 263),(.ref 264),(.int 531 0),(.int 127 0),(.str "/claim/cut.py" 532)],#[]⟩:Obj)) ::
 (nat_lit 266,(⟨(.type "function"),none,.func (fnOf "has_place" "Web.has_place" (qo q9) (qj q9) (qe q9) .none .none .none (.str "onceroad.webs" 475) none (.ref 265) .none),#[]⟩:Obj)) ::
 (nat_lit 272,(⟨(.type "code"),none,.fields #[(.str "has_tie" 534),(.str "Web.has_tie" 535),(.str "/claim/cut.py" 536),(.int 130 0),(.int 2 0),(.int 0 0),(.int 0 0),(.int 3 0),(.ref 267),(.bool true),(.int 181 0),(.ref 268),.none,(.ref 269),(.ref 270),(.ref 271),(.int 539 0),(.int 130 0),(.str "/claim/cut.py" 540)],#[]⟩:Obj)) ::
 (nat_lit 273,(⟨(.type "function"),none,.func (fnOf "has_tie" "Web.has_tie" (qo jt) (qj jt) (qe jt) .none .none .none (.str "onceroad.webs" 475) none (.ref 272) .none),#[]⟩:Obj)) ::
 (nat_lit 279,(⟨(.type "code"),none,.fields #[(.str "number_of" 542),(.str "Web.number_of" 543),(.str "/claim/cut.py" 544),(.int 133 0),(.int 2 0),(.int 0 0),(.int 0 0),(.int 3 0),(.ref 274),(.bool true),(.int 181 0),(.ref 275),.none,(.ref 276),(.ref 277),(.ref 278),(.int 547 0),(.int 133 0),(.str "/claim/cut.py" 548)],#[]⟩:Obj)) ::
 (nat_lit 280,(⟨(.type "function"),none,.func (fnOf "number_of" "Web.number_of" (qo jc) (qj jc) (qe jc) .none .none .none (.str "onceroad.webs" 475) none (.ref 279) .none),#[]⟩:Obj)) ::
 (nat_lit 286,(⟨(.type "code"),none,.fields #[(.str "beside" 550),(.str "Web.beside" 551),(.str "/claim/cut.py" 552),(.int 138 0),(.int 2 0),(.int 0 0),(.int 0 0),(.int 3 0),(.ref 281),(.bool true),(.int 181 0),(.ref 282),.none,(.ref 283),(.ref 284),(.ref 285),(.int 555 0),(.int 138 0),(.str "/claim/cut.py" 556)],#[]⟩:Obj)) ::
 (nat_lit 287,(⟨(.type "function"),none,.func (fnOf "beside" "Web.beside" (qo jE) (qj jE) (qe jE) .none .none .none (.str "onceroad.webs" 475) none (.ref 286) .none),#[]⟩:Obj)) ::
 (nat_lit 293,(⟨(.type "code"),none,.fields #[(.str "bits_beside" 558),(.str "Web.bits_beside" 559),(.str "/claim/cut.py" 560),(.int 141 0),(.int 2 0),(.int 0 0),(.int 0 0),(.int 3 0),(.ref 288),(.bool true),(.int 181 0),(.ref 289),.none,(.ref 290),(.ref 291),(.ref 292),(.int 563 0),(.int 141 0),(.str "/claim/cut.py" 564)],#[]⟩:Obj)) ::
 (nat_lit 294,(⟨(.type "function"),none,.func (fnOf "bits_beside" "Web.bits_beside" (qo qM) (qj qM) (qe qM) .none .none .none (.str "onceroad.webs" 475) none (.ref 293) .none),#[]⟩:Obj)) ::
 (nat_lit 300,(⟨(.type "code"),none,.fields #[(.str "tied" 566),(.str "Web.tied" 567),(.str "/claim/cut.py" 568),(.int 144 0),(.int 3 0),(.int 0 0),(.int 0 0),(.int 3 0),(.ref 295),(.bool true),(.int 181 0),(.ref 296),.none,(.ref 297),(.ref 298),(.ref 299),(.int 573 0),(.int 144 0),(.str "/claim/cut.py" 574)],#[]⟩:Obj)) ::
 (nat_lit 301,(⟨(.type "function"),none,.func (fnOf "tied" "Web.tied" (qo zc) (qj zc) (qe zc) .none .none .none (.str "onceroad.webs" 475) none (.ref 300) .none),#[]⟩:Obj)) ::
 (nat_lit 319,(⟨(.type "code"),none,.fields #[(.str "names_in" 590),(.str "Web.names_in" 591),(.str "/claim/cut.py" 592),(.int 154 0),(.int 2 0),(.int 0 0),(.int 0 0),(.int 3 0),(.ref 316),(.bool true),(.int 181 0),(.ref 317),.none,.none,.none,(.ref 318),(.int 593 0),(.int 154 0),(.str "/claim/cut.py" 594)],#[]⟩:Obj)) ::
 (nat_lit 320,(⟨(.type "function"),none,.func (fnOf "names_in" "Web.names_in" (qo qW) (qj qW) (qe qW) .none .none .none (.str "onceroad.webs" 475) none (.ref 319) .none),#[]⟩:Obj)) ::
 (nat_lit 350,(⟨(.type "dict"),none,.dict #[en P "__module__" 488 (.str "onceroad.webs" 475),en P "__firstlineno__" 492 (.int 106 491),en P "__init__" 501 (.ref 238),en P "places" 508 (.ref 245),en P "ties" 518 (.ref 252),en P "how_many" 525 (.ref 259),en P "has_place" 533 (.ref 266),en P "has_tie" 541 (.ref 273),en P "number_of" 549 (.ref 280),en P "beside" 557 (.ref 287),en P "bits_beside" 565 (.ref 294),en P "tied" 575 (.ref 301),en P "pieces" 582 (.ref 308),en P "told" 589 (.ref 315),en P "names_in" 595 (.ref 320),en P "without" 603 (.ref 327),en P "with_place" 611 (.ref 334),en P "with_tie" 620 (.ref 341),en P "without_tie" 629 (.ref 348),en P "__static_attributes__" 633 (.ref 349),en P "__dict__" 635 (.ref 352),en P "__weakref__" 637 (.ref 353),en P "__doc__" 638 .none] 4,#[]⟩:Obj)) ::
 (nat_lit 351,(⟨(.type "type"),none,.cls { name:="Web",bases:=[(.type "object")],mro:=[(.ref 351),(.type "object")],ns:=350,qualname:="Web",hasDict:=true,slotNames:=[],subclasses:=[],abstract:=false,collection:=none,hasDel:=false },#[none,none,(some (.str "Web" 481)),(some (.str "Web" 489)),(some (.builtin "object.__new__")),(some (.bool true))]⟩:Obj)) ::
 (nat_lit 361,(⟨(.type "code"),none,.fields #[(.str "has_bit" 641),(.str "has_bit" 642),(.str "/claim/cut.py" 643),(.int 168 0),(.int 2 0),(.int 0 0),(.int 0 0),(.int 3 0),(.ref 356),(.bool true),(.int 181 0),(.ref 357),.none,(.ref 358),(.ref 359),(.ref 360),(.int 646 0),(.int 168 0),(.str "/claim/cut.py" 647)],#[]⟩:Obj)) ::
 (nat_lit 362,(⟨(.type "function"),none,.func (fnOf "has_bit" "has_bit" (qo zB) (qj zB) (qe zB) .none .none .none (.str "onceroad.webs" 475) none (.ref 361) .none),#[]⟩:Obj)) ::
 (nat_lit 368,(⟨(.type "code"),none,.fields #[(.str "is_place" 649),(.str "is_place" 650),(.str "/claim/cut.py" 651),(.int 170 0),(.int 2 0),(.int 0 0),(.int 0 0),(.int 3 0),(.ref 363),(.bool true),(.int 181 0),(.ref 364),.none,(.ref 365),(.ref 366),(.ref 367),(.int 654 0),(.int 170 0),(.str "/claim/cut.py" 655)],#[]⟩:Obj)) ::
 (nat_lit 369,(⟨(.type "function"),none,.func (fnOf "is_place" "is_place" (qo za) (qj za) (qe za) .none .none .none (.str "onceroad.webs" 475) none (.ref 368) .none),#[]⟩:Obj)) ::
 (nat_lit 375,(⟨(.type "code"),none,.fields #[(.str "are_two_places" 657),(.str "are_two_places" 658),(.str "/claim/cut.py" 659),(.int 172 0),(.int 2 0),(.int 0 0),(.int 0 0),(.int 3 0),(.ref 370),(.bool true),(.int 181 0),(.ref 371),.none,(.ref 372),(.ref 373),(.ref 374),(.int 663 0),(.int 172 0),(.str "/claim/cut.py" 664)],#[]⟩:Obj)) ::
 (nat_lit 376,(⟨(.type "function"),none,.func (fnOf "are_two_places" "are_two_places" (qo qP) (qj qP) (qe qP) .none .none .none (.str "onceroad.webs" 475) none (.ref 375) .none),#[]⟩:Obj)) ::
 (nat_lit 382,(⟨(.type "code"),none,.fields #[(.str "numbers_of" 666),(.str "numbers_of" 667),(.str "/claim/cut.py" 668),(.int 177 0),(.int 1 0),(.int 0 0),(.int 0 0),(.int 3 0),(.ref 377),(.bool true),(.int 181 0),(.ref 378),.none,(.ref 379),(.ref 380),(.ref 381),(.int 672 0),(.int 177 0),(.str "/claim/cut.py" 673)],#[]⟩:Obj)) ::
 (nat_lit 383,(⟨(.type "function"),none,.func (fnOf "numbers_of" "numbers_of" (qo jD) (qj jD) (qe jD) .none .none .none (.str "onceroad.webs" 475) none (.ref 382) .none),#[]⟩:Obj)) ::
 (nat_lit 389,(⟨(.type "code"),none,.fields #[(.str "near_of" 675),(.str "near_of" 676),(.str "/claim/cut.py" 677),(.int 190 0),(.int 2 0),(.int 0 0),(.int 0 0),(.int 3 0),(.ref 384),(.bool true),(.int 181 0),(.ref 385),.none,(.ref 386),(.ref 387),(.ref 388),(.int 684 0),(.int 190 0),(.str "/claim/cut.py" 685)],#[]⟩:Obj)) ::
 (nat_lit 390,(⟨(.type "function"),none,.func (fnOf "near_of" "near_of" (qo zC) (qj zC) (qe zC) .none .none .none (.str "onceroad.webs" 475) none (.ref 389) .none),#[]⟩:Obj)) ::
 (nat_lit 396,(⟨(.type "code"),none,.fields #[(.str "_law_at" 689),(.str "_law_at" 690),(.str "/claim/cut.py" 691),(.int 207 0),(.int 2 0),(.int 0 0),(.int 0 0),(.int 3 0),(.ref 391),(.bool true),(.int 181 0),(.ref 392),.none,(.ref 393),(.ref 394),(.ref 395),(.int 694 0),(.int 207 0),(.str "/claim/cut.py" 695)],#[]⟩:Obj)) ::
 (nat_lit 397,(⟨(.type "function"),none,.func (fnOf "_law_at" "_law_at" (qo qbJ) (qj qbJ) (qe qbJ) .none .none .none (.str "law_onceroad_k23_rows_turned" 687) none (.ref 396) .none),#[]⟩:Obj)) ::
 (nat_lit 403,(⟨(.type "code"),none,.fields #[(.str "_law_box" 697),(.str "_law_box" 698),(.str "/claim/cut.py" 699),(.int 211 0),(.int 1 0),(.int 0 0),(.int 0 0),(.int 3 0),(.ref 398),(.bool true),(.int 181 0),(.ref 399),.none,(.ref 400),(.ref 401),(.ref 402),(.int 701 0),(.int 211 0),(.str "/claim/cut.py" 702)],#[]⟩:Obj)) ::
 (nat_lit 404,(⟨(.type "function"),none,.func (fnOf "_law_box" "_law_box" (qo qaW) (qj qaW) (qe qaW) .none .none .none (.str "law_onceroad_k23_rows_turned" 687) none (.ref 403) .none),#[]⟩:Obj)) ::
 (nat_lit 410,(⟨(.type "code"),none,.fields #[(.str "_law_take" 704),(.str "_law_take" 705),(.str "/claim/cut.py" 706),(.int 213 0),(.int 2 0),(.int 0 0),(.int 0 0),(.int 3 0),(.ref 405),(.bool true),(.int 181 0),(.ref 406),.none,(.ref 407),(.ref 408),(.ref 409),(.int 712 0),(.int 213 0),(.str "/claim/cut.py" 713)],#[]⟩:Obj)) ::
 (nat_lit 411,(⟨(.type "function"),none,.func (fnOf "_law_take" "_law_take" (qo qao) (qj qao) (qe qao) .none .none .none (.str "law_onceroad_k23_rows_turned" 687) none (.ref 410) .none),#[]⟩:Obj)) ::
 (nat_lit 415,(⟨(.type "code"),none,.fields #[(.str "_law_names" 715),(.str "_law_names" 716),(.str "/claim/cut.py" 717),(.int 223 0),(.int 2 0),(.int 0 0),(.int 0 0),(.int 3 0),(.ref 412),(.bool true),(.int 181 0),(.ref 413),.none,.none,.none,(.ref 414),(.int 718 0),(.int 223 0),(.str "/claim/cut.py" 719)],#[]⟩:Obj)) ::
 (nat_lit 416,(⟨(.type "function"),none,.func (fnOf "_law_names" "_law_names" (qo jI) (qj jI) (qe jI) .none .none .none (.str "law_onceroad_k23_rows_turned" 687) none (.ref 415) .none),#[]⟩:Obj)) ::
 (nat_lit 422,(⟨(.type "code"),none,.fields #[(.str "_law_web" 721),(.str "_law_web" 722),(.str "/claim/cut.py" 723),(.int 240 0),(.int 2 0),(.int 0 0),(.int 0 0),(.int 3 0),(.ref 417),(.bool true),(.int 181 0),(.ref 418),.none,(.ref 419),(.ref 420),(.ref 421),(.int 730 0),(.int 240 0),(.str "/claim/cut.py" 731)],#[]⟩:Obj)) ::
 (nat_lit 423,(⟨(.type "function"),none,.func (fnOf "_law_web" "_law_web" (qo qaX) (qj qaX) (qe qaX) .none .none .none (.str "law_onceroad_k23_rows_turned" 687) none (.ref 422) .none),#[]⟩:Obj)) ::
 (nat_lit 427,(⟨(.type "code"),none,.fields #[(.str "_law_more_ties" 733),(.str "_law_more_ties" 734),(.str "/claim/cut.py" 735),(.int 248 0),(.int 3 0),(.int 0 0),(.int 0 0),(.int 3 0),(.ref 424),(.bool true),(.int 181 0),(.ref 425),.none,.none,.none,(.ref 426),(.int 736 0),(.int 248 0),(.str "/claim/cut.py" 737)],#[]⟩:Obj)) ::
 (nat_lit 428,(⟨(.type "function"),none,.func (fnOf "_law_more_ties" "_law_more_ties" (qo je) (qj je) (qe je) .none .none .none (.str "law_onceroad_k23_rows_turned" 687) none (.ref 427) .none),#[]⟩:Obj)) ::
 (nat_lit 434,(⟨(.type "code"),none,.fields #[(.str "_law_tied" 739),(.str "_law_tied" 740),(.str "/claim/cut.py" 741),(.int 255 0),(.int 3 0),(.int 0 0),(.int 0 0),(.int 3 0),(.ref 429),(.bool true),(.int 181 0),(.ref 430),.none,(.ref 431),(.ref 432),(.ref 433),(.int 745 0),(.int 255 0),(.str "/claim/cut.py" 746)],#[]⟩:Obj)) ::
 (nat_lit 435,(⟨(.type "function"),none,.func (fnOf "_law_tied" "_law_tied" (qo qap) (qj qap) (qe qap) .none .none .none (.str "law_onceroad_k23_rows_turned" 687) none (.ref 434) .none),#[]⟩:Obj)) ::
 (nat_lit 441,(⟨(.type "code"),none,.fields #[(.str "_law_pairs" 748),(.str "_law_pairs" 749),(.str "/claim/cut.py" 750),(.int 257 0),(.int 2 0),(.int 0 0),(.int 0 0),(.int 3 0),(.ref 436),(.bool true),(.int 181 0),(.ref 437),.none,(.ref 438),(.ref 439),(.ref 440),(.int 758 0),(.int 257 0),(.str "/claim/cut.py" 759)],#[]⟩:Obj)) ::
 (nat_lit 442,(⟨(.type "function"),none,.func (fnOf "_law_pairs" "_law_pairs" (qo zG) (qj zG) (qe zG) .none .none .none (.str "law_onceroad_k23_rows_turned" 687) none (.ref 441) .none),#[]⟩:Obj)) ::
 (nat_lit 448,(⟨(.type "code"),none,.fields #[(.str "_law_partners" 761),(.str "_law_partners" 762),(.str "/claim/cut.py" 763),(.int 268 0),(.int 1 0),(.int 0 0),(.int 0 0),(.int 3 0),(.ref 443),(.bool true),(.int 181 0),(.ref 444),.none,(.ref 445),(.ref 446),(.ref 447),(.int 768 0),(.int 268 0),(.str "/claim/cut.py" 769)],#[]⟩:Obj)) ::
 (nat_lit 449,(⟨(.type "function"),none,.func (fnOf "_law_partners" "_law_partners" (qo jF) (qj jF) (qe jF) .none .none .none (.str "law_onceroad_k23_rows_turned" 687) none (.ref 448) .none),#[]⟩:Obj)) ::
 (nat_lit 455,(⟨(.type "code"),none,.fields #[(.str "_law_rising" 771),(.str "_law_rising" 772),(.str "/claim/cut.py" 773),(.int 274 0),(.int 2 0),(.int 0 0),(.int 0 0),(.int 3 0),(.ref 450),(.bool true),(.int 181 0),(.ref 451),.none,(.ref 452),(.ref 453),(.ref 454),(.int 779 0),(.int 274 0),(.str "/claim/cut.py" 780)],#[]⟩:Obj)) ::
 (nat_lit 456,(⟨(.type "function"),none,.func (fnOf "_law_rising" "_law_rising" (qo zf) (qj zf) (qe zf) .none .none .none (.str "law_onceroad_k23_rows_turned" 687) none (.ref 455) .none),#[]⟩:Obj)) ::
 (nat_lit 462,(⟨(.type "code"),none,.fields #[(.str "_law_is_row" 782),(.str "_law_is_row" 783),(.str "/claim/cut.py" 784),(.int 281 0),(.int 4 0),(.int 0 0),(.int 0 0),(.int 3 0),(.ref 457),(.bool true),(.int 181 0),(.ref 458),.none,(.ref 459),(.ref 460),(.ref 461),(.int 793 0),(.int 281 0),(.str "/claim/cut.py" 794)],#[]⟩:Obj)) ::
 (nat_lit 463,(⟨(.type "function"),none,.func (fnOf "_law_is_row" "_law_is_row" (qo zh) (qj zh) (qe zh) .none .none .none (.str "law_onceroad_k23_rows_turned" 687) none (.ref 462) .none),#[]⟩:Obj)) ::
 (nat_lit 469,(⟨(.type "code"),none,.fields #[(.str "_law_is_free" 796),(.str "_law_is_free" 797),(.str "/claim/cut.py" 798),(.int 296 0),(.int 2 0),(.int 0 0),(.int 0 0),(.int 3 0),(.ref 464),(.bool true),(.int 181 0),(.ref 465),.none,(.ref 466),(.ref 467),(.ref 468),(.int 803 0),(.int 296 0),(.str "/claim/cut.py" 804)],#[]⟩:Obj)) ::
 (nat_lit 470,(⟨(.type "function"),none,.func (fnOf "_law_is_free" "_law_is_free" (qo jN) (qj jN) (qe jN) .none .none .none (.str "law_onceroad_k23_rows_turned" 687) none (.ref 469) .none),#[]⟩:Obj)) ::
 (nat_lit 476,(⟨(.type "code"),none,.fields #[(.str "_law_walk" 806),(.str "_law_walk" 807),(.str "/claim/cut.py" 808),(.int 301 0),(.int 5 0),(.int 0 0),(.int 0 0),(.int 3 0),(.ref 471),(.bool true),(.int 181 0),(.ref 472),.none,(.ref 473),(.ref 474),(.ref 475),(.int 819 0),(.int 301 0),(.str "/claim/cut.py" 820)],#[]⟩:Obj)) ::
 (nat_lit 477,(⟨(.type "function"),none,.func (fnOf "_law_walk" "_law_walk" (qo qar) (qj qar) (qe qar) .none .none .none (.str "law_onceroad_k23_rows_turned" 687) none (.ref 476) .none),#[]⟩:Obj)) ::
 (nat_lit 483,(⟨(.type "code"),none,.fields #[(.str "_law_flipped" 822),(.str "_law_flipped" 823),(.str "/claim/cut.py" 824),(.int 317 0),(.int 3 0),(.int 0 0),(.int 0 0),(.int 3 0),(.ref 478),(.bool true),(.int 181 0),(.ref 479),.none,(.ref 480),(.ref 481),(.ref 482),(.int 832 0),(.int 317 0),(.str "/claim/cut.py" 833)],#[]⟩:Obj)) ::
 (nat_lit 484,(⟨(.type "function"),none,.func (fnOf "_law_flipped" "_law_flipped" (qo jO) (qj jO) (qe jO) .none .none .none (.str "law_onceroad_k23_rows_turned" 687) none (.ref 483) .none),#[]⟩:Obj)) ::
 (nat_lit 490,(⟨(.type "code"),none,.fields #[(.str "_law_right" 835),(.str "_law_right" 836),(.str "/claim/cut.py" 837),(.int 328 0),(.int 4 0),(.int 0 0),(.int 0 0),(.int 3 0),(.ref 485),(.bool true),(.int 181 0),(.ref 486),.none,(.ref 487),(.ref 488),(.ref 489),(.int 849 0),(.int 328 0),(.str "/claim/cut.py" 850)],#[]⟩:Obj)) ::
 (nat_lit 491,(⟨(.type "function"),none,.func (fnOf "_law_right" "_law_right" (qo zH) (qj zH) (qe zH) .none .none .none (.str "law_onceroad_k23_rows_turned" 687) none (.ref 490) .none),#[]⟩:Obj)) ::
 (nat_lit 497,(⟨(.type "code"),none,.fields #[(.str "_law_very" 852),(.str "_law_very" 853),(.str "/claim/cut.py" 854),(.int 342 0),(.int 2 0),(.int 0 0),(.int 0 0),(.int 3 0),(.ref 492),(.bool true),(.int 181 0),(.ref 493),.none,(.ref 494),(.ref 495),(.ref 496),(.int 858 0),(.int 342 0),(.str "/claim/cut.py" 859)],#[]⟩:Obj)) ::
 (nat_lit 498,(⟨(.type "function"),none,.func (fnOf "_law_very" "_law_very" (qo zT) (qj zT) (qe zT) .none .none .none (.str "law_onceroad_k23_rows_turned" 687) none (.ref 497) .none),#[]⟩:Obj)) ::
 (nat_lit 504,(⟨(.type "code"),none,.fields #[(.str "_law_refused" 861),(.str "_law_refused" 862),(.str "/claim/cut.py" 863),(.int 351 0),(.int 3 0),(.int 0 0),(.int 0 0),(.int 3 0),(.ref 499),(.bool true),(.int 181 0),(.ref 500),.none,(.ref 501),(.ref 502),(.ref 503),(.int 868 0),(.int 351 0),(.str "/claim/cut.py" 869)],#[]⟩:Obj)) ::
 (nat_lit 505,(⟨(.type "function"),none,.func (fnOf "_law_refused" "_law_refused" (qo jP) (qj jP) (qe jP) .none .none .none (.str "law_onceroad_k23_rows_turned" 687) none (.ref 504) .none),#[]⟩:Obj)) ::
 (nat_lit 511,(⟨(.type "code"),none,.fields #[(.str "_law_asked" 871),(.str "_law_asked" 872),(.str "/claim/cut.py" 873),(.int 357 0),(.int 5 0),(.int 0 0),(.int 0 0),(.int 3 0),(.ref 506),(.bool true),(.int 181 0),(.ref 507),.none,(.ref 508),(.ref 509),(.ref 510),(.int 880 0),(.int 357 0),(.str "/claim/cut.py" 881)],#[]⟩:Obj)) ::
 (nat_lit 512,(⟨(.type "function"),none,.func (fnOf "_law_asked" "_law_asked" (qo zI) (qj zI) (qe zI) .none .none .none (.str "law_onceroad_k23_rows_turned" 687) none (.ref 511) .none),#[]⟩:Obj)) ::
 (nat_lit 518,(⟨(.type "code"),none,.fields #[(.str "law" 883),(.str "law" 884),(.str "/claim/cut.py" 885),(.int 362 0),(.int 1 0),(.int 0 0),(.int 0 0),(.int 3 0),(.ref 513),(.bool true),(.int 181 0),(.ref 514),.none,(.ref 515),(.ref 516),(.ref 517),(.int 896 0),(.int 362 0),(.str "/claim/cut.py" 897)],#[]⟩:Obj)) ::
 (nat_lit 519,(⟨(.type "function"),none,.func (fnOf "law" "law" (qo qal) (qj qal) (qe qal) .none .none .none (.str "law_onceroad_k23_rows_turned" 687) none (.ref 518) .none),#[]⟩:Obj)) ::
 []
def ks:List Addr:=[1,2,3,34,35,37,38,54,55,57,58,73,74,76,77,92,93,95,96,111,112,114,115,130,131,133,134,149,150,152,153,168,169,171,172,180,181,187,188,194,195,201,202,206,207,213,214,218,219,223,224,237,238,251,252,265,266,272,273,279,280,286,287,293,294,300,301,319,320,350,351,361,362,368,369,375,376,382,383,389,390,396,397,403,404,410,411,415,416,422,423,427,428,434,435,441,442,448,449,455,456,462,463,469,470,476,477,483,484,490,491,497,498,504,505,511,512,518,519]
theorem ks_eq:∀ P,ks=(Kf P).map (·.1):=fun P=>by kernel_rfl
noncomputable abbrev Hk:Hook:=kHook Kf ks ks_eq
noncomputable abbrev Xt (s:Shared):Bool:=xlAt Q [] s&&recOk [] s
noncomputable def runAt (w:World) (os:OsState):=Hd.lookT PySem.Challenge.pw_onceroad_k23_rows_turned Q Xt (fun s=>ks.map s.heap.get?) NN w os
noncomputable def goodAt (w:World) (_:OsState):=some (openGood Q [],(Kf w.params).map fun p=>some p.2)
def tag {α:Type} (f g:World→OsState→α):Bool:=true
theorem tag1:tag runAt goodAt=true:=by k_qdec
theorem hl1 (w:World) (os:OsState):runAt w os=goodAt w os:=by
 rw [PySem.W.Fast.te16330919700689926342,PySem.W.Fast.te4160167454204595266]
 kernel_rfl
theorem hl:LeftO PySem.Challenge.pw_onceroad_k23_rows_turned Q [] Xt (Hook.obs Hk) (Hook.val Hk) NN:=Hd.left_of (by kernel_rfl) (by decide) (fun s=>by kernel_rfl) fun w os=>hl1 w os
end K23
set_option maxRecDepth 100000 in
set_option maxHeartbeats 0 in
theorem PySem.Challenge.cw_onceroad_k23_rows_turned_holds : PySem.Challenge.rw_onceroad_k23_rows_turned.Holds := by
  w_on; o_law
  refine PySem.W.holds_open (q := K23.Q) (loose := []) (Xt := K23.Xt) (XP := PySem.W.XL K23.Q []) (Yf := PySem.W.Hook.obs K23.Hk) (Ya := PySem.W.Hook.val K23.Hk) (YP := PySem.W.Hook.says (PySem.W.kHook K23.Kf K23.ks K23.ks_eq)) (N := K23.NN) K23.hl (PySem.W.Hook.of K23.Hk) (PySem.W.Hook.keeps K23.Hk) (fun s e => PySem.W.xl_of s (Bool.and_eq_true_iff.mp e).1) PySem.W.XL.keeps (by rfl) (by rfl) (by rfl) (fun s e => PySem.W.recFacts_of (Bool.and_eq_true_iff.mp e).2) (by rfl) (by first | assumption | decide +kernel) (by decide +kernel) ⟨rfl, rfl, rfl, rfl, rfl, by decide +kernel⟩ ?hw ?hc
  (case hw => w_witness2)
  k_fill
  refine K23.walk (l := PySem.Challenge.rw_onceroad_k23_rows_turned) rfl rfl (fun w h Y => PySem.W.kIn_of Y) ?F
  case F =>
    intro w mg fa h KX G hmg
    refine' K23.all_mk KX G hmg ?_ ?_ ?_ ?_ ?_ ?_ ?_ ?_ ?_ ?_ ?_ ?_ ?_ ?_ ?_ ?_ ?_ ?_ ?_ ?_ ?_ ?_ ?_ ?_ ?_ ?_ ?_ ?_ ?_ ?_ ?_ ?_ ?_ ?_ ?_ ?_ ?_ ?_ ?_ ?_ ?_ ?_ ?_ ?_ ?_ ?_ ?_ ?_ ?_ ?_ ?_ ?_ ?_ ?_ ?_ ?_ ?_ ?_ ?_ ?_ ?_ ?_ ?_ ?_ ?_ ?_ ?_ ?_ ?_ ?_ ?_ ?_ ?_ ?_ ?_ ?_ ?_ ?_ ?_ ?_ ?_ ?_ ?_ ?_ ?_ ?_ ?_ ?_ ?_ ?_ ?_ ?_ ?_ ?_ ?_ ?_ ?_ ?_ ?_ ?_ ?_ ?_ ?_ ?_ ?_ ?_ ?_ ?_ ?_ ?_ ?_ ?_ ?_ ?_ ?_ ?_ ?_ ?_ ?_ ?_ ?_ ?_ ?_ ?_ ?_
    any_goals first | k_is | decide
    any_goals first | k_is | decide | exact ⟨_, _, by k_is, L2.fun_mk (by k_is) (by k_is) (by k_is)⟩ | exact ⟨_, _, by k_is, by k_is, L2.fun_mk (by k_is) (by k_is) (by k_is)⟩ | exact ⟨_, _, _, _, _, _, _, _, _, _, _, _, _, _, _, by k_is⟩ | exact ⟨by k_is, by k_is, by k_is, by k_is, by k_is, by k_is, by k_is, by k_is⟩ | kernel_rfl | fail
