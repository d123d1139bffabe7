import PyProof.Rows.All
import Wide.All
import OpenK.AllK
import Wide.FinOn
import Lean
import PyProof.EqAt
import PyProof.EqKinds
import PyProof.TupleCall
import PySem.Challenge.RW_evenhub_k36_made_of_steps
set_option Elab.async false
set_option linter.all false
set_option maxRecDepth 100000
namespace L2
open PySem PySem.Spec PyProof.Rows
abbrev Key:=Sum Int Str
def keyIs:Key→Value→Bool
 | .inl k,v=>Value.isInt k v
 | .inr x,v=>Value.isStrOf x v
def keyH (w:World):Key→Int
 | .inl k=>hashInt k
 | .inr x=>hashStr w x
theorem v7:∀ {k:Key}{v:Value},keyIs k v=true→(∃ i t,k=Sum.inl i∧v=Value.int i t)∨(∃ x t,k=Sum.inr x∧v=Value.str x t)
 | .inl i,v,h=>by
  obtain⟨t,e⟩:=Value.isInt_shape (k:=i) (v:=v) h
  exact .inl ⟨i,t,rfl,e⟩
 | .inr x,v,h=>by
  obtain⟨t,e⟩:=Value.isStrOf_shape (x:=x) (v:=v) h
  exact .inr ⟨x,t,rfl,e⟩
theorem key_ll (a b:Int):decide ((Sum.inl a:Key)=Sum.inl b)=(a == b):=by
 by_cases e:a=b
 ·subst e;simp
 ·have h:¬ (Sum.inl a:Key)=Sum.inl b:=fun q=>e (Sum.inl.inj q)
  rw[decide_eq_false h]
  exact (beq_eq_false_iff_ne.mpr e).symm
theorem key_rr (a b:Str):decide ((Sum.inr a:Key)=Sum.inr b)=decide (a=b):=by
 by_cases e:a=b
 ·subst e;simp
 ·have h:¬ (Sum.inr a:Key)=Sum.inr b:=fun q=>e (Sum.inr.inj q)
  rw[decide_eq_false h,decide_eq_false e]
theorem key_lr (a:Int)(b:Str):decide ((Sum.inl a:Key)=Sum.inr b)=false:=decide_eq_false (fun q=>nomatch q)
theorem key_rl (a:Str)(b:Int):decide ((Sum.inr a:Key)=Sum.inl b)=false:=decide_eq_false (fun q=>nomatch q)
def mixKind (prog:Program)(w:World):PySem.KeyKind prog w Key where
 is:=keyIs
 hash:=keyH w
 inj:=fun v a b ha hb=>by
  rcases v7 ha with ⟨i,t,rfl,rfl⟩ | ⟨x,t,rfl,rfl⟩
  ·rcases v7 hb with ⟨j,u,rfl,e⟩ | ⟨y,u,rfl,e⟩
   ·injection e with e1 _;rw[e1]
   ·exact nomatch e
  ·rcases v7 hb with ⟨j,u,rfl,e⟩ | ⟨y,u,rfl,e⟩
   ·exact nomatch e
   ·injection e with e1 _;rw[e1]
 byValue:=fun k v h=>by
  rcases v7 h with ⟨i,t,rfl,rfl⟩ | ⟨x,t,rfl,rfl⟩ <;> rfl
 pyHash:=fun hv h=>by
  rcases v7 hv with ⟨i,t,rfl,rfl⟩ | ⟨x,t,rfl,rfl⟩
  ·exact wpAny_pyHash_int h
  ·exact wpAny_pyHash_str h
 eqBool:=fun hu hv h=>by
  rcases v7 hu with ⟨i,t,rfl,rfl⟩ | ⟨x,t,rfl,rfl⟩
  ·rcases v7 hv with ⟨j,u,rfl,rfl⟩ | ⟨y,u,rfl,rfl⟩
   ·rw[key_ll] at h;exact wpAny_eqBool_int h
   ·rw[key_lr] at h;exact SeqAt.EqAt.int_str i t y u _ _ _ _ h
  ·rcases v7 hv with ⟨j,u,rfl,rfl⟩ | ⟨y,u,rfl,rfl⟩
   ·rw[key_rl] at h;exact SeqAt.EqAt.str_int x t j u _ _ _ _ h
   ·rw[key_rr] at h;exact wpAny_eqBool_str h
 «strs»:=fun k x t v h=>by
  rcases v7 h with ⟨i,u,rfl,e⟩ | ⟨y,u,rfl,e⟩
  ·exact nomatch e
  ·injection e with e1 _
   subst e1
   cases v <;> rfl
end L2
namespace L2
open PySem PySem.Spec PyProof.Rows
inductive V where
 | non | bl (b:Bool) | int (i:Int) | str (x:Str) | byt (b:Array UInt8) | flt (b:UInt64) | ref (a:Addr) | ty (n:String)
 deriving DecidableEq
def RelV:V→Value→Prop
 | .non,u=>u=Value.none
 | .bl b,u=>u=Value.bool b
 | .int i,u=>∃ t,u=Value.int i t
 | .str x,u=>∃ t,u=Value.str x t
 | .byt b,u=>∃ t,u=Value.bytes b t
 | .flt b,u=>∃ t,u=Value.float b t
 | .ref a,u=>u=Value.ref a
 | .ty n,u=>u=Value.type n
abbrev Vals:List V→List Value→Prop:=Paired RelV
theorem Vals.length {xs:List V}{us:List Value}(r:Vals xs us):xs.length=us.length:=Paired.length r
theorem Vals.get:∀ {xs:List V}{us:List Value}{i:Nat}{x:V},Vals xs us→xs[i]?=some x→∃ u,us[i]?=some u∧RelV x u
 | _,_,_,_,.nil,e=>by simp at e
 | _,_,0,_,.cons r _,e=>by simp at e;subst e;exact⟨_,rfl,r⟩
 | _,_,i+1,x,.cons _ t,e=>by
  obtain⟨u,h1,h2⟩:=Vals.get (i:=i) (x:=x) t (by simpa using e)
  exact⟨u,by simpa using h1,h2⟩
theorem Vals.set {x:V}{u:Value}(r:RelV x u):∀ {xs:List V}{us:List Value}(i:Nat),Vals xs us→Vals (xs.set i x) (us.set i u)
 | _,_,_,.nil=>.nil
 | _,_,0,.cons _ t=>.cons r t
 | _,_,i+1,.cons q t=>.cons q (Vals.set r i t)
theorem Vals.append:∀ {xs ys:List V}{us ws:List Value},Vals xs us→Vals ys ws→Vals (xs ++ ys) (us ++ ws)
 | _,_,_,_,.nil,s=>s
 | _,_,_,_,.cons r t,s=>.cons r (Vals.append t s)
theorem Vals.take:∀ {xs:List V}{us:List Value}(n:Nat),Vals xs us→Vals (xs.take n) (us.take n)
 | _,_,0,_=>.nil
 | _,_,_+1,.nil=>.nil
 | _,_,n+1,.cons r t=>.cons r (Vals.take n t)
theorem Vals.drop:∀ {xs:List V}{us:List Value}(n:Nat),Vals xs us→Vals (xs.drop n) (us.drop n)
 | _,_,0,r=>r
 | _,_,_+1,.nil=>.nil
 | _,_,n+1,.cons _ t=>Vals.drop n t
def RelO:Option V→Option Value→Prop
 | some v,some u=>RelV v u
 | none,none=>True
 | _,_=>False
def KV {κ:Type}:List (κ×V)→List (κ×Value)→Prop:=Paired fun (p:κ×V)(q:κ×Value)=>p.1=q.1∧RelV p.2 q.2
def kV:Key→V
 | .inl i=>.int i
 | .inr x=>.str x
inductive HO where
 /-- a list -/
 | lst (xs:List V)
 /-- a tuple (never changes) -/
 | tup (xs:List V)
 /-- a dict whose keys are ints and texts;one whose keys are tuples of ints and texts (the empty one is both) -/
 | dK (kvs:List (Key×V)) | dT (kvs:List (List Key×V))
 /-- a set of ints: its members,its size -/
 | set (S:Int→Bool)(n:Nat)
 /-- an instance of the class at C,its dict at dx,its attributes -/
 | ins (C dx:Addr)(fs:List (Str×V))
 /-- the dict of the instance at x -/
 | own (x:Addr)
 /-- the dict of an exception -/
 | xd (fs:List (Str×V))
 /-- a bound method,f of x -/
 | met (f x:Addr)
 /-- a range object lo,lo+1,.. below hi -/
 | rng (lo hi:Int)
 /-- a thing that is known to the object (the script;a dict while a loop walks it): read,never written while it is so -/
 | frz (o:Obj)(u:HO)
 /-- a code object's table -/
 | tbl (ps:Array Value)
 /-- any other thing,by what is true of its one object (a def of one's own: SetO a S n:=HO.ext fun h=>..) -/
 | ext (φ:Heap→Prop)
abbrev Hp:=Addr→Option HO
def upd (H:Hp)(a:Addr)(o:HO):Hp:=fun b=>if b=a then some o else H b
theorem zD {H:Hp}{a:Addr}{o:HO}:upd H a o a=some o:=by unfold upd;rw[if_pos rfl]
theorem vA {H:Hp}{a b:Addr}{o:HO}(h:b≠a):upd H a o b=H b:=by unfold upd;rw[if_neg h]
theorem zCf {H:Hp}{a b:Addr}{o u:HO}(h:H a=some o)(h':H b=some u)(d:o≠u):a≠b:=by
 intro e;subst e;rw[h] at h';exact d (Option.some.inj h')
theorem zY {H:Hp}{a b:Addr}{o:HO}(h:H a=some o)(h':H b=none):a≠b:=by
 intro e;subst e;rw[h] at h';cases h'
section
variable (P:Program)(w:World)
def zAb (H:Hp)(h:Heap)(a:Addr):HO→Prop
 | .lst xs=>xs.length≤sizeLine∧∃ (its:List Value)(n:Nat),Vals xs its∧h.get? a=some { cls:=.type "list",data:=.seq its.toArray n }
 | .tup xs=>xs.length≤sizeLine∧∃ its:List Value,Vals xs its∧IsTup h a its.toArray
 | .dK kvs=>kvs.length≤sizeLine∧(a == sysModules)=false∧∃ vs,KV kvs vs∧h.DictOf (mixKind P w) a vs
 | .dT kvs=>kvs.length≤sizeLine∧(a == sysModules)=false∧∃ xs:List (List Key×Addr×Value),
   Paired (fun (p:List Key×V)(q:List Key×Addr×Value)=>p.1=q.1∧H q.2.1=some (.tup (p.1.map kV))∧RelV p.2 q.2.2) kvs xs ∧
   ∃ o es ep,h.get? a=some o∧o.ExactDict∧o.data=.dict es ep∧es.toList=xs.map (entryOfKey (tupleKind (mixKind P w)))∧(xs.map (·.1)).Nodup
 | .set S n=>h.SetOf (intKind P w) a S n
 | .ins C dx fs=>H dx=some (.own a)∧fs.length≤1000∧dx≠a∧h.get? a=some (PySem.W.instObj C dx) ∧
   ∃ mA,h.Ns1 dx mA∧(∀ f,RelO (fs.lookup f) (mA f))∧PySem.Within mA (fs.map (·.1))
 | .own _=>∃ o,h.get? a=some o
 | .xd fs=>∃ mA,h.Ns1 a mA∧∀ f,RelO (fs.lookup f) (mA f)
 | .rng lo hi=>∃ t u v,h.get? a=some { cls:=.type "range",data:=.fields #[.int lo t,.int hi u,.int 1 v] }
 | .frz o u=>h.get? a=some o∧zAb H h a u
 | .tbl ps=>h.get? a=some { cls:=.none,data:=.fields ps }
 | .met f x=>h.get? a=some (PySem.W.methodObj (.ref f) (.ref x))
 | .ext φ=>φ h∧(∃ o,h.get? a=some o)∧∀ h1 h2:Heap,φ h1→(∀ o,h1.get? a=some o→h2.get? a=some o)→φ h2
def HOk (H:Hp)(h:Heap):Prop:=∀ a o,H a=some o→zAb P w H h a o
end
section
variable {P:Program}{w:World}{H H':Hp}{h h':Heap}{a:Addr}{o:HO}
theorem zAb.lt (x:zAb P w H h a o):a < h.objs.size:=by
 cases o with
 | lst xs=>obtain⟨_,_,_,_,e⟩:=x;exact Heap.lt_size e
 | tup xs=>obtain⟨_,_,_,p⟩:=x;exact p.lt
 | dK kvs=>obtain⟨_,_,_,_,o,_,_,e,_⟩:=x;exact Heap.lt_size e
 | dT kvs=>obtain⟨_,_,_,_,o,_,_,e,_⟩:=x;exact Heap.lt_size e
 | set S n=>obtain⟨o,_,_,_,e,_⟩:=x;exact Heap.lt_size e
 | ins C dx fs=>obtain⟨_,_,_,e,_⟩:=x;exact Heap.lt_size e
 | own y=>obtain⟨_,e⟩:=x;exact Heap.lt_size e
 | xd fs=>obtain⟨_,⟨_,_,_,e,_⟩,_⟩:=x;exact Heap.lt_size e
 | rng lo hi=>obtain⟨_,_,_,e⟩:=x;exact Heap.lt_size e
 | frz ob u=>obtain⟨e,_⟩:=x;exact Heap.lt_size e
 | tbl ps=>exact Heap.lt_size (show h.get? a=some _ from x)
 | met f y=>exact Heap.lt_size (show h.get? a=some _ from x)
 | ext φ=>obtain⟨_,⟨_,e⟩,_⟩:=x;exact Heap.lt_size e
theorem Paired.mapP {α β:Type}{F G:α→β→Prop}:∀ {l₁:List α}{l₂:List β},Paired F l₁ l₂→(∀ a b,F a b→G a b)→Paired G l₁ l₂
 | _,_,.nil,_=>.nil
 | _,_,.cons r t,f=>.cons (f _ _ r) (Paired.mapP t f)
theorem zAb.stay (x:zAb P w H h a o)(k:∀ b u,(b=a∨H b=some (.own a))→h.get? b=some u→h'.get? b=some u)
  (ho:∀ b,H b=some (.own a)→H' b=some (.own a))(ht:∀ b xs,H b=some (.tup xs)→H' b=some (.tup xs)):zAb P w H' h' a o:=by
 induction o with
 | lst xs=>obtain⟨z,its,n,r,e⟩:=x;exact⟨z,its,n,r,k _ _ (.inl rfl) e⟩
 | tup xs=>obtain⟨z,its,r,ob,e,c⟩:=x;exact⟨z,its,r,ob,k _ _ (.inl rfl) e,c⟩
 | dK kvs=>obtain⟨z,y,vs,r,ob,es,ep,e,c⟩:=x;exact⟨z,y,vs,r,ob,es,ep,k _ _ (.inl rfl) e,c⟩
 | dT kvs =>
  obtain⟨z,y,xs,r,ob,es,ep,e,c⟩:=x
  exact⟨z,y,xs,Paired.mapP r fun p q z=>⟨z.1,ht _ _ z.2.1,z.2.2⟩,ob,es,ep,k _ _ (.inl rfl) e,c⟩
 | set S n=>obtain⟨ob,es,ep,t,e,c⟩:=x;exact⟨ob,es,ep,t,k _ _ (.inl rfl) e,c⟩
 | ins C dx fs =>
  obtain⟨d,z,ne,e,mA,⟨od,es,ep,e2,c⟩,r⟩:=x
  exact⟨ho _ d,z,ne,k _ _ (.inl rfl) e,mA,⟨od,es,ep,k _ _ (.inr d) e2,c⟩,r⟩
 | own y=>obtain⟨ob,e⟩:=x;exact⟨ob,k _ _ (.inl rfl) e⟩
 | xd fs=>obtain⟨mA,⟨od,es,ep,e,c⟩,r⟩:=x;exact⟨mA,⟨od,es,ep,k _ _ (.inl rfl) e,c⟩,r⟩
 | rng lo hi=>obtain⟨t,u,v,e⟩:=x;exact⟨t,u,v,k _ _ (.inl rfl) e⟩
 | frz ob u ih=>obtain⟨e,q⟩:=x;exact⟨k _ _ (.inl rfl) e,ih q⟩
 | tbl ps =>
  have e:h.get? a=some { cls:=.none,data:=.fields ps }:=x
  show h'.get? a=some { cls:=.none,data:=.fields ps }
  exact k a _ (.inl rfl) e
 | met f y =>
  have e:h.get? a=some (PySem.W.methodObj (.ref f) (.ref y)):=x
  show h'.get? a=some (PySem.W.methodObj (.ref f) (.ref y))
  exact k a _ (.inl rfl) e
 | ext φ=>obtain⟨p,⟨o,e⟩,st⟩:=x;exact⟨st _ _ p fun o q=>k _ _ (.inl rfl) q,⟨o,k _ _ (.inl rfl) e⟩,st⟩
theorem HOk.lt (x:HOk P w H h)(e:H a=some o):a < h.objs.size:=(x a o e).lt
theorem HOk.fresh (x:HOk P w H h)(e:h.objs.size≤a):H a=none:=by
 cases q:H a with
 | none=>rfl
 | some u=>exact absurd (Nat.lt_of_lt_of_le (x.lt q) e) (Nat.lt_irrefl _)
theorem HOk.kept (x:HOk P w H h)(k:∀ b u,h.get? b=some u→h'.get? b=some u):HOk P w H h':=fun a o e =>
 (x a o e).stay (fun b u _ q=>k b u q) (fun _ q=>q) fun _ _ q=>q
theorem HOk.laid (x:HOk P w H h)(k:∀ b u,h.get? b=some u→h'.get? b=some u)(hp:h.objs.size≤a)(new:zAb P w (upd H a o) h' a o):HOk P w (upd H a o) h':=fun b u e=>by
 have hn:=x.fresh hp
 by_cases hb:b=a
 ·subst hb;rw[zD] at e;cases e;exact new
 ·rw[vA hb] at e
  exact (x b u e).stay (fun c v _ q=>k c v q) (fun c q=>by rw[vA (zY q hn)];exact q) fun c xs q=>by rw[vA (zY q hn)];exact q
end
def Rd (H:Hp)(a:Addr)(u:HO):Prop:=H a=some u∨∃ o,H a=some (.frz o u)
theorem Rd.of {H:Hp}{a:Addr}{u:HO}(h:H a=some u):Rd H a u:=.inl h
theorem Rd.ok {P:Program}{w:World}{H:Hp}{h:Heap}{a:Addr}{u:HO}(r:Rd H a u)(x:HOk P w H h):zAb P w H h a u:=by
 rcases r with r | ⟨o,r⟩
 ·exact x a u r
 ·obtain⟨_,q⟩:=x a _ r
  exact q
def Mut:Option HO→Prop
 | some (.lst _)=>True
 | some (.dK _)=>True
 | some (.dT _)=>True
 | some (.set _ _)=>True
 | some (.ins _ _ _)=>True
 | some (.ext _)=>True
 | _=>False
section
variable {P:Program}{w:World}{H:Hp}{h h':Heap}{x e:Addr}{o':HO}
theorem HOk.write (ok:HOk P w H h)(mu:Mut (H x))(he:e=x∨H e=some (.own x))(k:∀ b u,b≠e→h.get? b=some u→h'.get? b=some u)(heo:∃ u,h'.get? e=some u)
  (new:zAb P w (upd H x o') h' x o'):HOk P w (upd H x o') h':=fun b u q=>by
 have nown:∀ c y,H c=some (.own y)→c≠x:=fun c y r z=>by subst z;rw[r] at mu;exact mu
 have ntup:∀ c xs,H c=some (.tup xs)→c≠x:=fun c xs r z=>by subst z;rw[r] at mu;exact mu
 by_cases hb:b=x
 ·subst hb;rw[zD] at q;cases q;exact new
 ·rw[vA hb] at q
  by_cases hbe:b=e
  ·have q':H b=some (.own x):=by
    rcases he with z | z
    ·exact absurd (hbe.trans z) hb
    ·rw[hbe];exact z
   rw[q] at q';cases q'
   obtain⟨v,hv⟩:=heo
   exact⟨v,by rw[hbe];exact hv⟩
  ·refine (ok b u q).stay (fun c v hc r=>k c v ?_ r) (fun c r=>by rw[vA (nown c b r)];exact r) fun c xs r=>by rw[vA (ntup c xs r)];exact r
   rcases hc with rfl | hc
   ·exact hbe
   ·rintro rfl
    rcases he with z | z
    ·exact nown c b hc z
    ·rw[hc] at z;cases z;exact hb rfl
end
structure Un (fs ex:List Addr)(H H':Hp)(h h':Heap):Prop where
 keep:∀ b o,h.get? b=some o→H b=none→b∉fs→b∉ex→h'.get? b=some o
 slot:∀ b o,h.get? b=some o→H b=none→b∈fs→b∉ex→∃ sl,h'.get? b=some { o with slots:=sl }
 free:∀ b o,h.get? b=some o→H b=none→b∉ex→H' b=none
 there:∀ b o,h.get? b=some o→b∉ex→∃ o',h'.get? b=some o'
 tups:∀ b xs,H b=some (.tup xs)→H' b=some (.tup xs)
 frzs:∀ b o u,H b=some (.frz o u)→H' b=some (.frz o u)
 tbls:∀ b ps,H b=some (.tbl ps)→∃ more,H' b=some (.tbl (ps ++ more))
section
variable {fs fs' ex ex':List Addr}{H H1 H2:Hp}{h h1 h2 h':Heap}{a x e:Addr}{o:HO}
theorem Un.any (u:Un fs ex H H1 h h1){b:Addr}{ob:Obj}(q:h.get? b=some ob)(n:H b=none)(hx:b∉ex):∃ sl,h1.get? b=some { ob with slots:=sl }:=by
 by_cases hb:b∈fs
 ·exact u.slot b ob q n hb hx
 ·exact⟨ob.slots,u.keep b ob q n hb hx⟩
theorem Un.trans (a:Un fs ex H H1 h h1)(b:Un fs ex H1 H2 h1 h2):Un fs ex H H2 h h2 where
 keep:=fun c ob q n hc hx=>b.keep c ob (a.keep c ob q n hc hx) (a.free c ob q n hx) hc hx
 slot:=fun c ob q n hc hx=>by
  obtain⟨sl,e1⟩:=a.slot c ob q n hc hx
  obtain⟨sl',e2⟩:=b.slot c _ e1 (a.free c ob q n hx) hc hx
  exact⟨sl',e2⟩
 free:=fun c ob q n hx=>by
  obtain⟨o',e1⟩:=a.there c ob q hx
  exact b.free c o' e1 (a.free c ob q n hx) hx
 there:=fun c ob q hx=>by
  obtain⟨o',e1⟩:=a.there c ob q hx
  exact b.there c o' e1 hx
 tups:=fun c xs q=>b.tups c xs (a.tups c xs q)
 frzs:=fun c ob xs q=>b.frzs c ob xs (a.frzs c ob xs q)
 tbls:=fun c ps q=>by
  obtain⟨m1,e1⟩:=a.tbls c ps q
  obtain⟨m2,e2⟩:=b.tbls c _ e1
  exact⟨m1 ++ m2,by rw[e2,Array.append_assoc]⟩
theorem Un.kept (k:∀ b u,h.get? b=some u→h'.get? b=some u):Un fs ex H H h h' :=
 ⟨fun b ob q _ _ _=>k b ob q,fun b ob q _ _ _=>⟨ob.slots,k b ob q⟩,fun _ _ _ n _=>n,fun b ob q _=>⟨ob,k b ob q⟩,fun _ _ q=>q,fun _ _ _ q=>q,fun _ ps q=>⟨#[],by rw[q];simp⟩⟩
theorem Un.refl:Un fs ex H H h h:=Un.kept fun _ _ q=>q
theorem Un.laid (k:∀ b u,h.get? b=some u→h'.get? b=some u)(hp:h.objs.size≤a)(hn:H a=none):Un fs ex H (upd H a o) h h' where
 keep:=fun b u q _ _ _=>k b u q
 slot:=fun b u q _ _ _=>⟨u.slots,k b u q⟩
 free:=fun b u q n _=>by rw[vA (Nat.ne_of_lt (Nat.lt_of_lt_of_le (Heap.lt_size q) hp))];exact n
 there:=fun b u q _=>⟨u,k b u q⟩
 tups:=fun b xs q=>by rw[vA (zY q hn)];exact q
 frzs:=fun b u xs q=>by rw[vA (zY q hn)];exact q
 tbls:=fun b ps q=>⟨#[],by rw[vA (zY q hn),q];simp⟩
theorem Un.write (mu:Mut (H x))(he:e=x∨H e=some (.own x))(k:∀ b u,b≠e→h.get? b=some u→h'.get? b=some u)(heo:∃ u,h'.get? e=some u):Un fs ex H (upd H x o) h h':=by
 have hx:∀ b,H b=none→b≠x:=fun b n z=>by subst z;rw[n] at mu;exact mu
 have hb:∀ b,H b=none→b≠e:=fun b n z=>by
  subst z
  rcases he with r | r
  ·exact hx b n r
  ·rw[n] at r;cases r
 have hm:∀ b u,H b=some u→¬ Mut (some u)→b≠x:=fun b u q nm z=>by subst z;rw[q] at mu;exact nm mu
 refine⟨fun b u q n _ _=>k b u (hb b n) q,fun b u q n _ _=>⟨u.slots,k b u (hb b n) q⟩,fun b u q n _=>by rw[vA (hx b n)];exact n,fun b u q _=>?_,
  fun b xs q=>by rw[vA (hm b _ q fun z=>z)];exact q,fun b u xs q=>by rw[vA (hm b _ q fun z=>z)];exact q,fun b ps q=>⟨#[],by rw[vA (hm b _ q fun z=>z),q];simp⟩⟩
 by_cases hbe:b=e
 ·subst hbe;exact heo
 ·exact⟨u,k b u hbe q⟩
end
def trk (h:Heap)(H:Hp):List Addr:=(List.range h.objs.size).filter fun a=>(H a).isSome
def hidT (h:Heap)(H:Hp):Heap:=PySem.W.hideAll h (trk h H)
theorem hidT_size (h:Heap)(H:Hp):(hidT h H).objs.size=h.objs.size:=PySem.W.hideAll_size _ _
theorem hidT_get {h:Heap}{H:Hp}{b:Addr}{o:Obj}(e:h.get? b=some o)(n:H b=none):(hidT h H).get? b=some o :=
 PySem.W.hideAll_get _ e fun hm=>by
  have q:(H b).isSome=true:=(List.mem_filter.mp hm).2
  rw[n] at q;simp at q
theorem of_hidT {h:Heap}{H:Hp}{b:Addr}{o:Obj}(e:(hidT h H).get? b=some o):h.get? b=some o∧H b=none:=by
 have e':h.get? b=some o:=PySem.W.of_hideAll (trk h H) e
 refine⟨e',?_⟩
 cases q:H b with
 | none=>rfl
 | some x =>
  have hm:b∈trk h H:=List.mem_filter.mpr ⟨List.mem_range.mpr (Heap.lt_size e'),by simp [q]⟩
  have z:(hidT h H).get? b=none:=PySem.W.hideAll_none (trk h H) hm
  rw[z] at e;cases e
def allNews (g h:Heap)(L:Addr):List (Addr×Obj):=(List.range h.objs.size).filterMap fun a=>if a=L∨(g.get? a).isSome=true then none else (h.get? a).map fun o=>(a,o)
def rest (g h:Heap)(L d:Addr):List (Addr×Obj):=(allNews g h L).filter fun p=>decide (p.1≠d)
end L2
namespace L2
open PySem PySem.Spec PyProof.Rows
structure Mod (K:PySem.W.Frag)(mg:Str→Option Value)(base:Heap):Prop where
 kin:K.In base
 glob:base.Ns mainGlobals mg
 blt:∃ mb,base.Ns builtinsNs mb∧∀ x:Str,x≠"__name__"→mb x=bootBuiltins x
 nolimit:base.NoLimit
structure Cx where
 prog:Program
 w:World
 K:PySem.W.Frag
 mg:Str→Option Value
 base:Heap
 A:Around
 N:List Str
 s₀:Shared
 H₀:Hp
 env:Env
 outer:List Env
 stack:List Env
 ex:List Addr
 fn:Str→Bool
 calm:Bool
 pn:List (Addr×Obj)
 xe:Value→Shared→Prop
def frs (l:List Env):List Addr:=l.filterMap (·.frame)
abbrev Cx.fs (X:Cx):List Addr:=frs X.outer
def Vis (sc:Scope)(x:Str):Prop:=sc.names.lookup x=some .local∨sc.names.lookup x=some .cell∨sc.names.lookup x=some .free
def Loc (sc:Scope)(x:Str):Prop:=sc.names.lookup x=some .local∨sc.names.lookup x=some .cell
def Look (env:Env)(h:Heap)(m:Str→Option Value)(x:Str)(u:Value):Prop :=
 (env.kindOf x=some .local∧m x=some u)∨((env.kindOf x=some .cell∨env.kindOf x=some .free)∧∃ c,env.cells.lookup x=some c∧h.IsCell c (some u))
structure Cx.Ok (X:Cx):Prop where
 mod:Mod X.K X.mg X.base
 kind:X.env.scope.kind=.function
 glob:X.env.globals=mainGlobals
 blt:X.env.builtins=builtinsNs
 above:X.s₀.heap.objs.size≤X.env.locals
 inj:∀ x y c,X.env.cells.lookup x=some c→X.env.cells.lookup y=some c→x=y
 has:∀ x,(X.env.kindOf x=some .cell∨X.env.kindOf x=some .free)→∃ c,X.env.cells.lookup x=some c
 cab:∀ x c,X.fn x=true→X.env.cells.lookup x=some c→X.s₀.heap.objs.size≤c
 hd:X.calm=true→X.A.handled=none
 frames:X.A.frames=some X.stack
 stk:X.stack=X.outer∨(X.stack=X.env::X.outer∧X.env.frame=some X.env.locals)
 exf:∀ b∈X.ex,b≠X.env.locals∧∀ x c,X.env.cells.lookup x=some c→c≠b
 bs:∀ b o,X.base.get? b=some o→X.s₀.heap.get? b=some o∧X.H₀ b=none
 bsz:X.base.objs.size≤X.s₀.heap.objs.size
 noex:∀ b o,X.base.get? b=some o→b∉X.ex
 exfs:∀ b∈X.ex,b∉X.fs
 funs:X.s₀.heap.FunFrames X.base X.outer
 frf:∀ b∈X.fs,X.H₀ b=none
structure Inv (X:Cx)(pins:List (Addr×Obj))(σ:List (Option V))(H:Hp)(s:Shared):Prop where
 ok:X.Ok
 os:s.os=X.s₀.os
 bare:AllBare s.gens
 base:Un X.fs X.ex X.H₀ H X.s₀.heap s.heap
 loc:∃ m,s.heap.Ns X.env.locals m∧∀ (i:Nat)(x:Str)(v:V),X.N[i]?=some x→σ[i]?=some (some v)→Vis X.env.scope x→∃ u,RelV v u∧Look X.env s.heap m x u
 cell:∀ x c,X.env.cells.lookup x=some c→∃ v,s.heap.IsCell c v
 free:H X.env.locals=none
 freeC:∀ x c,X.env.cells.lookup x=some c→H c=none
 pin:∀ p∈X.pn ++ pins,s.heap.get? p.1=some p.2∧H p.1=none∧p.1≠X.env.locals∧p.1∉X.fs∧∀ v,p.2.data≠.cell v
 hok:HOk X.prog X.w H s.heap
 len:σ.length=X.N.length
section
variable {X:Cx}{pins:List (Addr×Obj)}{σ:List (Option V)}{H H':Hp}{s:Shared}{h':Heap}
theorem Cx.Ok.nofr (ok:X.Ok){b:Addr}{o:Obj}(e:X.base.get? b=some o):b∉X.fs:=fun hb=>by
 have:=(ok.funs.mem hb).1
 rw[e] at this;cases this
theorem Inv.bs (I:Inv X pins σ H s):∀ b o,X.base.get? b=some o→s.heap.get? b=some o∧H b=none:=fun b o e =>
 ⟨I.base.keep b o (I.ok.bs b o e).1 (I.ok.bs b o e).2 (I.ok.nofr e) (I.ok.noex b o e),I.base.free b o (I.ok.bs b o e).1 (I.ok.bs b o e).2 (I.ok.noex b o e)⟩
theorem Inv.bk (I:Inv X pins σ H s):∀ b o,X.base.get? b=some o→s.heap.get? b=some o:=fun b o e=>(I.bs b o e).1
theorem Inv.mod (I:Inv X pins σ H s):Mod X.K X.mg X.base:=I.ok.mod
theorem Inv.kIn (I:Inv X pins σ H s):X.K.In s.heap:=I.ok.mod.kin.keeps I.bk
theorem Inv.fr (I:Inv X pins σ H s):∃ m,Fr X.base X.env.locals s.heap m :=
 let ⟨m,hn,_⟩:=I.loc
 ⟨m,hn,I.bk,Nat.le_trans I.ok.bsz I.ok.above⟩
theorem Inv.lt (I:Inv X pins σ H s):X.env.locals < s.heap.objs.size:=let ⟨_,hn,_⟩:=I.loc;hn.lt
theorem Inv.sz (I:Inv X pins σ H s):X.s₀.heap.objs.size≤s.heap.objs.size:=Nat.le_trans I.ok.above (Nat.le_of_lt I.lt)
theorem Inv.nofs (I:Inv X pins σ H s){a:Addr}(h:s.heap.objs.size≤a):a∉X.fs:=fun hb=>by
 obtain⟨_,o,ho,_⟩:=I.ok.funs.mem hb
 exact absurd (Nat.lt_of_lt_of_le (Heap.lt_size ho) (Nat.le_trans I.sz h)) (Nat.lt_irrefl _)
theorem Inv.cne (I:Inv X pins σ H s):∀ x c,X.env.cells.lookup x=some c→c≠X.env.locals:=fun x c e z=>by
 obtain⟨v,o,ho,hd⟩:=I.cell x c e
 obtain⟨m,⟨o',es,ep,ho',hd',_⟩,_⟩:=I.loc
 rw[z,ho'] at ho;cases ho;rw[hd'] at hd;cases hd
theorem Inv.funs (I:Inv X pins σ H s):s.heap.FunFrames X.base X.outer:=by
 have all:∀ (l:List Env),(∀ b∈frs l,b∈X.fs)→X.s₀.heap.FunFrames X.base l→s.heap.FunFrames X.base l:=by
  intro l
  induction l with
  | nil=>intro _ _;trivial
  | cons env r ih =>
   intro hs hl
   obtain⟨hk,⟨L,o,hf,hn,ho,hd⟩,hr⟩:=hl
   have hL:L∈X.fs:=hs L (by unfold frs;rw[List.filterMap_cons,hf];exact List.mem_cons_self)
   obtain⟨sl,e⟩:=I.base.slot L o ho (I.ok.frf L hL) hL fun z=>I.ok.exfs L z hL
   exact⟨hk,⟨L,_,hf,hn,e,hd⟩,ih (fun b hb=>hs b (by unfold frs;rw[List.filterMap_cons,hf];exact List.mem_cons_of_mem _ hb)) hr⟩
 exact all X.outer (fun _ hb=>hb) I.ok.funs
theorem Inv.stack (I:Inv X pins σ H s):s.heap.FunFrames X.base X.stack:=by
 rcases I.ok.stk with e | ⟨e,hf⟩
 ·rw[e];exact I.funs
 ·rw[e]
  obtain⟨m,hn,_⟩:=I.loc
  refine .cons (by rw[I.ok.kind];decide) hf hn ?_ I.funs
  exact Heap.get?_none_of_le (Nat.le_trans I.ok.bsz I.ok.above)
theorem Inv.stkSub (I:Inv X pins σ H s):∀ b∈frs X.stack,b∈X.env.locals::X.fs:=fun b hb=>by
 rcases I.ok.stk with e | ⟨e,hf⟩
 ·rw[e] at hb;exact List.mem_cons_of_mem _ hb
 ·rw[e] at hb
  unfold frs at hb
  rw[List.filterMap_cons,hf] at hb
  exact hb
theorem Inv.stkFree (I:Inv X pins σ H s):∀ b∈frs X.stack,H b=none:=fun b hb=>by
 rcases List.mem_cons.mp (I.stkSub b hb) with e | hb
 ·rw[e];exact I.free
 ·obtain⟨_,o,ho,_⟩:=I.ok.funs.mem hb
  exact I.base.free b o ho (I.ok.frf b hb) fun z=>I.ok.exfs b z hb
theorem Inv.step {g':Array GenState}{t':Nat}{d':Drawn}{ch:List Addr}(I:Inv X pins σ H s)
  (hch:∀ b∈ch,(b∈X.ex∨X.s₀.heap.objs.size≤b)∧b≠X.env.locals∧(∀ x c,X.env.cells.lookup x=some c→c≠b)∧∀ p∈X.pn ++ pins,p.1≠b)
  (keep:∀ b o,b≠X.env.locals→b∉X.fs→b∉ch→s.heap.get? b=some o→H b=none→h'.get? b=some o)
  (slot:∀ b o,b≠X.env.locals→b∈X.fs→b∉ch→s.heap.get? b=some o→H b=none→∃ sl,h'.get? b=some { o with slots:=sl })(free:∀ b o,b∉ch→s.heap.get? b=some o→H b=none→H' b=none)
  (there:∀ b o,b∉ch→s.heap.get? b=some o→∃ o',h'.get? b=some o')
  (tups:∀ b xs,H b=some (.tup xs)→H' b=some (.tup xs))(frzs:∀ b o u,H b=some (.frz o u)→H' b=some (.frz o u))(tbls:∀ b ps,H b=some (.tbl ps)→∃ more,H' b=some (.tbl (ps ++ more)))
  (ns:∀ m,s.heap.Ns X.env.locals m→h'.Ns X.env.locals m)(hok:HOk X.prog X.w H' h')(hg:AllBare g') :
  Inv X pins σ H' { s with heap:=h',gens:=g',drawn:=d',toks:=t' }:=by
 have neL:∀ b o,X.s₀.heap.get? b=some o→b≠X.env.locals:=fun b o e=>Nat.ne_of_lt (Nat.lt_of_lt_of_le (Heap.lt_size e) I.ok.above)
 have neC:∀ b o,X.s₀.heap.get? b=some o→b∉X.ex→b∉ch:=fun b o e hx hb=>by
  rcases (hch b hb).1 with z | z
  ·exact hx z
  ·exact absurd (Nat.lt_of_lt_of_le (Heap.lt_size e) z) (Nat.lt_irrefl _)
 have cellK:∀ x c,X.env.cells.lookup x=some c→∀ v,s.heap.IsCell c v→h'.IsCell c v:=fun x c e v ⟨o,ho,hd⟩=>by
  have nch:c∉ch:=fun z=>(hch c z).2.2.1 x c e rfl
  by_cases hc:c∈X.fs
  ·obtain⟨sl,q⟩:=slot c o (I.cne x c e) hc nch ho (I.freeC x c e)
   exact⟨_,q,hd⟩
  ·exact⟨o,keep c o (I.cne x c e) hc nch ho (I.freeC x c e),hd⟩
 refine⟨I.ok,I.os,hg,⟨fun b o e n hb hx=>?_,fun b o e n hb hx=>?_,fun b o e n hx=>?_,fun b o e hx=>?_,fun b xs e=>tups b xs (I.base.tups b xs e),fun b o xs e=>frzs b o xs (I.base.frzs b o xs e),fun b ps e=>?_⟩,?_,fun x c e=>?_,?_,fun x c e=>?_,fun p hp=>?_,hok,I.len⟩
 ·exact keep b o (neL b o e) hb (neC b o e hx) (I.base.keep b o e n hb hx) (I.base.free b o e n hx)
 ·obtain⟨sl,e1⟩:=I.base.slot b o e n hb hx
  obtain⟨sl',e2⟩:=slot b _ (neL b o e) hb (neC b o e hx) e1 (I.base.free b o e n hx)
  exact⟨sl',e2⟩
 ·obtain⟨o',e1⟩:=I.base.there b o e hx
  exact free b o' (neC b o e hx) e1 (I.base.free b o e n hx)
 ·obtain⟨o',e1⟩:=I.base.there b o e hx
  exact there b o' (neC b o e hx) e1
 ·obtain⟨m1,e1⟩:=I.base.tbls b ps e
  obtain⟨m2,e2⟩:=tbls b _ e1
  exact⟨m1 ++ m2,by rw[e2,Array.append_assoc]⟩
 ·obtain⟨m,hn,hl⟩:=I.loc
  refine⟨m,ns m hn,fun i x v e1 e2 e3=>?_⟩
  obtain⟨u,r,l⟩:=hl i x v e1 e2 e3
  refine⟨u,r,?_⟩
  rcases l with l | ⟨k,c,e,z⟩
  ·exact .inl l
  ·exact .inr ⟨k,c,e,cellK x c e _ z⟩
 ·obtain⟨v,z⟩:=I.cell x c e
  exact⟨v,cellK x c e v z⟩
 ·obtain⟨m,⟨o,_,_,ho,_⟩,_⟩:=I.loc
  exact free _ o (fun z=>(hch _ z).2.1 rfl) ho I.free
 ·obtain⟨v,o,ho,hd⟩:=I.cell x c e
  exact free c o (fun z=>(hch c z).2.2.1 x c e rfl) ho (I.freeC x c e)
 ·obtain⟨e,n,ne,nf,d⟩:=I.pin p hp
  have nch:p.1∉ch:=fun z=>(hch p.1 z).2.2.2 p hp rfl
  exact⟨keep p.1 p.2 ne nf nch e n,free p.1 p.2 nch e n,ne,nf,d⟩
theorem Inv.un {t':Nat}(I:Inv X pins σ H s)(u:Un X.fs [] H H' s.heap h')(hok:HOk X.prog X.w H' h'):Inv X pins σ H' { s with heap:=h',toks:=t' }:=by
 obtain⟨m,⟨o,es,ep,ho,r⟩,_⟩:=id I.loc
 obtain⟨sl,hL⟩:=u.any ho I.free (by simp)
 exact I.step (g':=s.gens) (d':=s.drawn) (ch:=[]) (fun _ z=>nomatch z) (fun b o _ hb _ e n=>u.keep b o e n hb (by simp)) (fun b o _ hb _ e n=>u.slot b o e n hb (by simp)) (fun b o _ e n=>u.free b o e n (by simp)) (fun b o _ e=>u.there b o e (by simp)) u.tups u.frzs u.tbls (fun m' hm=>by
  obtain⟨o',es',ep',ho',r'⟩:=hm
  rw[ho] at ho';cases ho'
  exact⟨_,es',ep',hL,r'⟩) hok I.bare
theorem Inv.call {g':Array GenState}{t':Nat}{d':Drawn}{ch:List Addr}(I:Inv X pins σ H s)(u:Un (frs X.stack) ch H H' s.heap h')(hok:HOk X.prog X.w H' h')(hg:AllBare g')
  (hch:∀ b∈ch,(b∈X.ex∨X.s₀.heap.objs.size≤b)∧b≠X.env.locals∧(∀ x c,X.env.cells.lookup x=some c→c≠b)∧∀ p∈X.pn ++ pins,p.1≠b) :
  Inv X pins σ H' { s with heap:=h',gens:=g',drawn:=d',toks:=t' }:=by
 obtain⟨m,⟨o,es,ep,ho,r⟩,_⟩:=id I.loc
 obtain⟨sl,hL⟩:=u.any ho I.free fun z=>(hch _ z).2.1 rfl
 exact I.step (ch:=ch) hch (fun b o hL hb hc e n=>u.keep b o e n (fun z=>(List.mem_cons.mp (I.stkSub b z)).elim hL hb) hc) (fun b o _ _ hc e n=>u.any e n hc) (fun b o hc e n=>u.free b o e n hc) (fun b o hc e=>u.there b o e hc) u.tups u.frzs u.tbls (fun m' hm=>by
  obtain⟨o',es',ep',ho',r'⟩:=hm
  rw[ho] at ho';cases ho'
  exact⟨_,es',ep',hL,r'⟩) hok hg
theorem Inv.turned {t':Nat}{it:Addr}(I:Inv X pins σ H s)(k:∀ b o,b≠it→s.heap.get? b=some o→h'.get? b=some o)(hn:H it=none)(hL:it≠X.env.locals)
  (h1:it∈X.ex∨X.s₀.heap.objs.size≤it)(h2:∀ x c,X.env.cells.lookup x=some c→c≠it)(h3:∀ p∈X.pn ++ pins,p.1≠it):Inv X pins σ H { s with heap:=h',toks:=t' }:=by
 have nit:∀ b u,H b=some u→b≠it:=fun b u e z=>by rw[z,hn] at e;cases e
 refine I.step (g':=s.gens) (d':=s.drawn) (ch:=[it]) (fun b hb=>?_) (fun b o _ _ hc e _=>k b o (fun z=>hc (by simp [z])) e) (fun b o _ _ hc e _=>⟨o.slots,k b o (fun z=>hc (by simp [z])) e⟩) (fun _ _ _ _ n=>n)
  (fun b o hc e=>⟨o,k b o (fun z=>hc (by simp [z])) e⟩) (fun _ _ e=>e) (fun _ _ _ e=>e) (fun b ps e=>⟨#[],by rw[e];simp⟩) (fun m hm=>?_) (fun b u e=>?_) I.bare
 ·have e:b=it:=by simpa using hb
  subst e
  exact⟨h1,hL,h2,h3⟩
 ·obtain⟨o,es,ep,ho,r⟩:=hm
  exact⟨o,es,ep,k _ o (Ne.symm hL) ho,r⟩
 ·refine (I.hok b u e).stay (fun c v hc q=>k c v ?_ q) (fun _ q=>q) fun _ _ q=>q
  rcases hc with z | z
  ·rw[z];exact nit b u e
  ·exact nit c _ z
theorem Inv.tok (I:Inv X pins σ H s)(t:Nat):Inv X pins σ H { s with toks:=t }:=I.un (h':=s.heap) (t':=t) Un.refl I.hok
theorem Inv.kept {t':Nat}(I:Inv X pins σ H s)(k:∀ b u,s.heap.get? b=some u→h'.get? b=some u):Inv X pins σ H { s with heap:=h',toks:=t' }:=I.un (Un.kept k) (I.hok.kept k)
theorem Inv.laid {a:Addr}{o:HO}{t':Nat}(I:Inv X pins σ H s)(k:∀ b u,s.heap.get? b=some u→h'.get? b=some u)(hp:s.heap.objs.size≤a)(new:zAb X.prog X.w (upd H a o) h' a o) :
  Inv X pins σ (upd H a o) { s with heap:=h',toks:=t' }:=I.un (Un.laid k hp (I.hok.fresh hp)) (I.hok.laid k hp new)
theorem Inv.write {x e:Addr}{o:HO}{t':Nat}(I:Inv X pins σ H s)(mu:Mut (H x))(he:e=x∨H e=some (.own x))(k:∀ b u,b≠e→s.heap.get? b=some u→h'.get? b=some u)(heo:∃ u,h'.get? e=some u)
  (new:zAb X.prog X.w (upd H x o) h' x o):Inv X pins σ (upd H x o) { s with heap:=h',toks:=t' }:=I.un (Un.write mu he k heo) (I.hok.write mu he k heo new)
theorem Inv.weak {σ':List (Option V)}(I:Inv X pins σ H s)(hl:σ'.length=σ.length)(w:∀ (i:Nat) v,σ'[i]?=some (some v)→σ[i]?=some (some v)):Inv X pins σ' H s :=
 ⟨I.ok,I.os,I.bare,I.base,let ⟨m,hn,hl'⟩:=I.loc;⟨m,hn,fun i x v e1 e2 e3=>hl' i x v e1 (w i v e2) e3⟩,I.cell,I.free,I.freeC,I.pin,I.hok,hl.trans I.len⟩
theorem Inv.zAo {pins':List (Addr×Obj)}(I:Inv X pins σ H s)(h:∀ p∈pins',s.heap.get? p.1=some p.2∧H p.1=none∧p.1≠X.env.locals∧p.1∉X.fs∧∀ v,p.2.data≠.cell v):Inv X pins' σ H s :=
 ⟨I.ok,I.os,I.bare,I.base,I.loc,I.cell,I.free,I.freeC,fun p hp=>(List.mem_append.mp hp).elim (fun z=>I.pin p (List.mem_append_left _ z)) (h p),I.hok,I.len⟩
theorem nodup_ix {N:List Str}(hN:N.Nodup){i j:Nat}{x:Str}(a:N[i]?=some x)(b:N[j]?=some x):i=j:=by
 obtain⟨h1,e1⟩:=List.getElem?_eq_some_iff.mp a
 obtain⟨h2,e2⟩:=List.getElem?_eq_some_iff.mp b
 exact (List.getElem_inj hN).mp (e1.trans e2.symm)
theorem zEz {M:Model}{A:Around}{E:Value→Shared→Prop}{i:Nat}{x:Str}{v:V}{u:Value}{Q:Unit→Shared→Prop}(I:Inv X pins σ H s)(hN:X.N.Nodup)(hi:X.N[i]?=some x)(hx:Loc X.env.scope x)(r:RelV v u)
  (h:∀ s',Inv X pins (σ.set i (some v)) H s'→(∃ a,Heap.SameBut a s.heap s'.heap∧(a=X.env.locals∨X.env.cells.lookup x=some a))→Q () s')(hf:X.fn x=true∨X.env.scope.names.lookup x=some .local:=by first | exact .inl rfl | exact .inr rfl | assumption):wpAny M A (storeName X.env x u) Q E s:=by
 obtain⟨m,hn,hl⟩:=id I.loc
 have hcls:(X.env.scope.kind == .class || (X.env.scope.kind == .module && X.env.locals != X.env.globals))=false:=by rw[I.ok.kind];rfl
 have hiσ:i < σ.length:=by rw[I.len];exact (List.getElem?_eq_some_iff.mp hi).1
 have cne:=I.cne
 have tracked:∀ {a:Addr}{h':Heap},(∃ o,s.heap.get? a=some o∧H a=none)→Heap.SameBut a s.heap h'→HOk X.prog X.w H h':=fun {a h'} ha hs b ob e=>by
  obtain⟨_,_,hfree⟩:=ha
  refine (I.hok b ob e).stay (fun c w' hc q=>(hs.2 c ?_).trans q) (fun _ q=>q) fun _ _ q=>q
  rintro rfl
  rcases hc with rfl | hc
  ·rw[hfree] at e;cases e
  ·rw[hfree] at hc;cases hc
 rcases hx with hk | hk
 ·refine wpAny_storeName_local hk hn (fun h' hn' hs=>?_) hcls
  obtain⟨oL,_,_,hoL,_⟩:=id hn
  refine h _ ⟨I.ok,I.os,I.bare,⟨fun b o e n hb hx=>?_,fun b o e n hb hx=>?_,I.base.free,fun b o e hx=>?_,I.base.tups,I.base.frzs,I.base.tbls⟩,⟨_,hn',fun j y v' e1 e2 e3=>?_⟩,fun y c e=>?_,I.free,I.freeC,fun p hp=>?_,tracked ⟨oL,hoL,I.free⟩ hs,by simpa using I.len⟩ ⟨_,hs,.inl rfl⟩
  ·exact (hs.2 b (Nat.ne_of_lt (Nat.lt_of_lt_of_le (Heap.lt_size e) I.ok.above))).trans (I.base.keep b o e n hb hx)
  ·obtain⟨sl,e1⟩:=I.base.slot b o e n hb hx
   exact⟨sl,(hs.2 b (Nat.ne_of_lt (Nat.lt_of_lt_of_le (Heap.lt_size e) I.ok.above))).trans e1⟩
  ·obtain⟨o',e1⟩:=I.base.there b o e hx
   exact⟨o',(hs.2 b (Nat.ne_of_lt (Nat.lt_of_lt_of_le (Heap.lt_size e) I.ok.above))).trans e1⟩
  ·by_cases hj:j=i
   ·subst hj
    rw[hi] at e1;cases e1
    rw[List.getElem?_set_self hiσ] at e2
    cases e2
    exact⟨u,r,.inl ⟨hk,by simp⟩⟩
   ·rw[List.getElem?_set_ne (Ne.symm hj)] at e2
    obtain⟨u',r',q⟩:=hl j y v' e1 e2 e3
    refine⟨u',r',?_⟩
    rcases q with ⟨k,e⟩ | ⟨k,c,e,z⟩
    ·refine .inl ⟨k,?_⟩
     have:y≠x:=fun e=>hj (nodup_ix hN e1 (e▸hi))
     simp [this,e]
    ·exact .inr ⟨k,c,e,z.sameBut hs (cne y c e)⟩
  ·obtain⟨w',z⟩:=I.cell y c e
   exact⟨w',z.sameBut hs (cne y c e)⟩
  ·obtain⟨e,n,ne,nf,d⟩:=I.pin p hp
   exact⟨(hs.2 p.1 ne).trans e,n,ne,nf,d⟩
 ·have hfn:X.fn x=true:=by
   rcases hf with z | z
   ·exact z
   ·rw[z] at hk;cases hk
  obtain⟨c,hc⟩:=I.ok.has x (.inl hk)
  obtain⟨w',z⟩:=I.cell x c hc
  refine wpAny_storeName_cell I.ok.kind hk hc z (fun h' hc' hs=>?_)
  obtain⟨oc,hoc,hocd⟩:=id z
  refine h { s with heap:=h' } ⟨I.ok,I.os,I.bare,⟨fun b o e n hb hx=>?_,fun b o e n hb hx=>?_,I.base.free,fun b o e hx=>?_,I.base.tups,I.base.frzs,I.base.tbls⟩,⟨m,hn.sameBut hs (Ne.symm (cne x c hc)),fun j y v' e1 e2 e3=>?_⟩,fun y c' e=>?_,I.free,I.freeC,fun p hp=>?_,tracked ⟨oc,hoc,I.freeC x c hc⟩ hs,by simpa using I.len⟩ ⟨c,hs,.inr hc⟩
  ·exact (hs.2 b (Nat.ne_of_lt (Nat.lt_of_lt_of_le (Heap.lt_size e) (I.ok.cab x c hfn hc)))).trans (I.base.keep b o e n hb hx)
  ·obtain⟨sl,e1⟩:=I.base.slot b o e n hb hx
   exact⟨sl,(hs.2 b (Nat.ne_of_lt (Nat.lt_of_lt_of_le (Heap.lt_size e) (I.ok.cab x c hfn hc)))).trans e1⟩
  ·obtain⟨o',e1⟩:=I.base.there b o e hx
   exact⟨o',(hs.2 b (Nat.ne_of_lt (Nat.lt_of_lt_of_le (Heap.lt_size e) (I.ok.cab x c hfn hc)))).trans e1⟩
  ·by_cases hj:j=i
   ·subst hj
    rw[hi] at e1;cases e1
    rw[List.getElem?_set_self hiσ] at e2
    cases e2
    exact⟨u,r,.inr ⟨.inl hk,c,hc,hc'⟩⟩
   ·rw[List.getElem?_set_ne (Ne.symm hj)] at e2
    obtain⟨u',r',q⟩:=hl j y v' e1 e2 e3
    refine⟨u',r',?_⟩
    rcases q with q | ⟨k,c',e,z'⟩
    ·exact .inl q
    ·refine .inr ⟨k,c',e,z'.sameBut hs ?_⟩
     rintro rfl
     exact hj (nodup_ix hN e1 (I.ok.inj _ _ _ e hc▸hi))
  ·by_cases hcc:c'=c
   ·subst hcc;exact⟨_,hc'⟩
   ·obtain⟨w2,z2⟩:=I.cell y c' e
    exact⟨w2,z2.sameBut hs hcc⟩
  ·obtain⟨e,n,ne,nf,d⟩:=I.pin p hp
   refine⟨(hs.2 p.1 ?_).trans e,n,ne,nf,d⟩
   intro q
   rw[q,hoc] at e
   have q':oc=p.2:=Option.some.inj e
   exact d w' (by rw[← q'];exact hocd)
theorem store_ok {M:Model}{A:Around}{E:Value→Shared→Prop}{i:Nat}{x:Str}{v:V}{u:Value}{Q:Unit→Shared→Prop}(I:Inv X pins σ H s)(hN:X.N.Nodup)(hi:X.N[i]?=some x)(hx:Loc X.env.scope x)(r:RelV v u)
  (h:∀ s',Inv X pins (σ.set i (some v)) H s'→Q () s')(hf:X.fn x=true∨X.env.scope.names.lookup x=some .local:=by first | exact .inl rfl | exact .inr rfl | assumption):wpAny M A (storeName X.env x u) Q E s :=
 zEz I hN hi hx r (fun s' I' _=>h s' I') hf
theorem Inv.call' {s':Shared}{ch:List Addr}(I:Inv X pins σ H s)(ho:s'.os=s.os)(u:Un (frs X.stack) ch H H' s.heap s'.heap)(hok:HOk X.prog X.w H' s'.heap)(hg:AllBare s'.gens)
  (hch:∀ b∈ch,(b∈X.ex∨X.s₀.heap.objs.size≤b)∧b≠X.env.locals∧(∀ x c,X.env.cells.lookup x=some c→c≠b)∧∀ p∈X.pn ++ pins,p.1≠b):Inv X pins σ H' s':=by
 obtain⟨h',g',d',t',o'⟩:=s'
 have e:o'=s.os:=ho
 subst e
 exact I.call (g':=g') (t':=t') (d':=d') u hok hg hch
end
abbrev XK:=Value→Option Addr→Hp→Prop
abbrev St:=List (Option V)
abbrev VK:=V→Hp→Prop
abbrev TE:=St→Hp→VK→Prop
abbrev TT:=St→Hp→(Bool→Hp→Prop)→Prop
abbrev TA:=St→Hp→(List V→Hp→Prop)→Prop
structure Ends where
 nx:St→Hp→Prop
 rt:VK
 bk:St→Hp→Prop:=fun _ _=>False
 ct:St→Hp→Prop:=fun _ _=>False
abbrev TS:=Ends→St→Hp→Prop
def EP (X:Cx)(pins:List (Addr×Obj))(σ:St)(Q:VK)(u:Value)(s':Shared):Prop:=∃ v H',Inv X pins σ H' s'∧RelV v u∧Q v H'
def TP (X:Cx)(pins:List (Addr×Obj))(σ:St)(Q:Bool→Hp→Prop)(b:Bool)(s':Shared):Prop:=∃ H',Inv X pins σ H' s'∧Q b H'
def AP (X:Cx)(pins:List (Addr×Obj))(σ:St)(Q:List V→Hp→Prop)(us:List Value)(s':Shared):Prop:=∃ vs H',Inv X pins σ H' s'∧Vals vs us∧Q vs H'
def SP (X:Cx)(pins:List (Addr×Obj))(D:Ends)(f:Flow)(s':Shared):Prop :=
 match f with
 | .next=>∃ σ' H',Inv X pins σ' H' s'∧D.nx σ' H'
 | .brk=>∃ σ' H',Inv X pins σ' H' s'∧D.bk σ' H'
 | .cont=>∃ σ' H',Inv X pins σ' H' s'∧D.ct σ' H'
 | .ret u=>∃ v σ' H',Inv X pins σ' H' s'∧RelV v u∧D.rt v H'
def PE (X:Cx)(e:Expr)(t:TE):Prop :=
 ∀ (pins:List (Addr×Obj))(s:Shared)(σ:St)(H:Hp)(Q:VK),Inv X pins σ H s→t σ H Q→wpAny (model X.prog X.w) X.A (eval e X.env) (EP X pins σ Q) X.xe s
def PT (X:Cx)(e:Expr)(t:TT):Prop :=
 ∀ (pins:List (Addr×Obj))(s:Shared)(σ:St)(H:Hp)(Q:Bool→Hp→Prop),Inv X pins σ H s→t σ H Q→wpAny (model X.prog X.w) X.A (isTrue e X.env (eval e X.env)) (TP X pins σ Q) X.xe s
def PW (X:Cx)(e:Expr)(t:TT):Prop :=
 ∀ (whole:Sem Value)(pins:List (Addr×Obj))(s:Shared)(σ:St)(H:Hp)(Q:Bool→Hp→Prop),Inv X pins σ H s→t σ H Q→wpAny (model X.prog X.w) X.A (isTrue e X.env whole) (TP X pins σ Q) X.xe s
theorem PW.pt {X:Cx}{e:Expr}{t:TT}(h:PW X e t):PT X e t:=h _
def PA (X:Cx)(es:List Expr)(t:TA):Prop :=
 ∀ (pos:Pos)(pins:List (Addr×Obj))(s:Shared)(σ:St)(H:Hp)(Q:List V→Hp→Prop),Inv X pins σ H s→t σ H Q→wpAny (model X.prog X.w) X.A (spliced (backTo pos (starEach es X.env))) (AP X pins σ Q) X.xe s
def PS (X:Cx)(st:Stmt)(t:TS):Prop :=
 ∀ (pins:List (Addr×Obj))(s:Shared)(σ:St)(H:Hp)(D:Ends),Inv X pins σ H s→t D σ H→wpAny (model X.prog X.w) X.A (exec st X.env) (SP X pins D) X.xe s
def PSs (X:Cx)(st:List Stmt)(t:TS):Prop :=
 ∀ (pins:List (Addr×Obj))(s:Shared)(σ:St)(H:Hp)(D:Ends),Inv X pins σ H s→t D σ H→wpAny (model X.prog X.w) X.A (execs st X.env) (SP X pins D) X.xe s
theorem thn {α:Type}{t:Sem α}{Q Q':α→Shared→Prop}{M:Model}{A:Around}{E:Value→Shared→Prop}{s:Shared}(h:wpAny M A t Q E s)(hQ:∀ a s,Q a s→Q' a s):wpAny M A t Q' E s:=wpAny_mono h hQ fun _ _ x=>x
end L2
namespace L2
open PySem PySem.Spec PyProof.Rows
section
variable {X:Cx}
def tVar (i:Nat):TE:=fun σ H Q=>∃ v,σ[i]?=some (some v)∧Q v H
def tC (v:V):TE:=fun _ H Q=>Q v H
theorem pe_var {i:Nat}{x:Str}{pos:Pos}(hN:X.N[i]?=some x)(hv:Vis X.env.scope x)(hd:(x == ("__debug__":Str))=false:=by decide)(hcd:(x == ("__classdict__":Str))=false:=by decide):PE X (.Name x pos) (tVar i):=by
 intro pins s σ H Q I h
 obtain⟨v,e,h⟩:=h
 obtain⟨m,hn,hl⟩:=I.loc
 obtain⟨u,r,l⟩:=hl i x v hN e hv
 have fin:EP X pins σ Q u s:=⟨v,H,I,r,h⟩
 rcases l with ⟨hk,hm⟩ | ⟨hk,c,hc,hcell⟩
 ·exact wpAny_Name (wpAny_loadName_local I.ok.kind hk hn hm fin) hd
 ·rcases hk with hk | hk
  ·exact wpAny_Name (wpAny_loadName_cell I.ok.kind hk hc hcell fin) hd
  ·exact wpAny_Name (wpAny_loadName_free I.ok.kind hk hc hcell fin hcd) hd
theorem zE {i j pos}:PE X (.Constant (.int i) j pos) (tC (.int i)):=fun _ _ _ H _ I h=>wpAny_Constant_int ⟨.int i,H,I.tok _,⟨_,rfl⟩,h⟩
theorem pe_bl {b j pos}:PE X (.Constant (.bool b) j pos) (tC (.bl b)):=fun _ _ _ H _ I h=>Constant_bool ⟨.bl b,H,I,rfl,h⟩
theorem zDh {j pos}:PE X (.Constant .none j pos) (tC .non):=fun _ _ _ H _ I h=>Constant_none ⟨.non,H,I,rfl,h⟩
theorem zHb {x j pos}:PE X (.Constant (.str x) j pos) (tC (.str x)):=fun _ _ _ H _ I h=>Calls.Constant_str ⟨.str x,H,I.tok _,⟨_,rfl⟩,h⟩
def Gl (X:Cx)(x:Str):Prop:=X.env.kindOf x=some .globalImplicit
theorem ld_glob {E:Value→Shared→Prop}{pins:List (Addr×Obj)}{s:Shared}{σ:St}{H:Hp}{x:Str}{u:Value}{pos:Pos}{Q:Value→Shared→Prop}(I:Inv X pins σ H s)(hg:Gl X x)(hm:X.mg x=some u)(h:Q u s)
  (hd:(x == ("__debug__":Str))=false:=by decide):wpAny (model X.prog X.w) X.A (eval (.Name x pos) X.env) Q E s :=
 Calls.Name_function_global I.ok.kind hg (Calls.loadGlobal_global (by rw[I.ok.glob];exact I.mod.glob.keeps I.bk) hm h) hd
theorem zDe {E:Value→Shared→Prop}{pins:List (Addr×Obj)}{s:Shared}{σ:St}{H:Hp}{x:Str}{u:Value}{pos:Pos}{Q:Value→Shared→Prop}(I:Inv X pins σ H s)(hg:Gl X x)(hm:X.mg x=none)(hv:bootBuiltins x=some u)(h:Q u s)
  (hn:x≠"__name__":=by decide)(hd:(x == ("__debug__":Str))=false:=by decide):wpAny (model X.prog X.w) X.A (eval (.Name x pos) X.env) Q E s:=by
 obtain⟨mb,h1,h2⟩:=I.mod.blt
 exact Calls.Name_function_global I.ok.kind hg (Calls.loadGlobal_builtin (by rw[I.ok.glob];exact I.mod.glob.keeps I.bk) hm (by rw[I.ok.blt];exact h1.keeps I.bk) ((h2 x hn).trans hv) h) hd
theorem pe_glob {x:Str}{v:V}{u:Value}{pos:Pos}(hg:Gl X x)(hm:X.mg x=some u)(r:RelV v u)(hd:(x == ("__debug__":Str))=false:=by decide):PE X (.Name x pos) (tC v) :=
 fun _ _ _ H _ I h=>ld_glob I hg hm ⟨v,H,I,r,h⟩ hd
theorem pe_bltn {x:Str}{v:V}{u:Value}{pos:Pos}(hg:Gl X x)(hm:X.mg x=none)(hv:bootBuiltins x=some u)(r:RelV v u)(hn:x≠"__name__":=by decide)(hd:(x == ("__debug__":Str))=false:=by decide):PE X (.Name x pos) (tC v) :=
 fun _ _ _ H _ I h=>zDe I hg hm hv ⟨v,H,I,r,h⟩ hn hd
variable {a b:Expr}{ta tb:TE}{pos:Pos}
def tB (t:TE):TT:=fun σ H Q=>t σ H fun x H1=>∃ c,x=.bl c∧Q c H1
theorem zHa {e:Expr}{t:TE}(h:PE X e t)(he:∀ whole,isTrue e X.env whole=(do let v ← whole;standAt e.pos;holding [v] (truthy v)):=by intro _;rfl):PT X e (tB t):=by
 intro pins s σ H Q I hw
 refine isTrue_plain (thn (h pins s σ H _ I hw) fun v s1 ⟨x,H1,I1,r1,q1⟩=>?_) (he _)
 obtain⟨d,rfl,q⟩:=q1
 cases r1
 exact wpAny_truthy_bool ⟨H1,I1,q⟩
variable {tA tB':TT}{rest:List Expr}
def tAnd (t u:TT):TT:=fun σ H Q=>t σ H fun c H1=>if c=true then u σ H1 Q else Q false H1
def tOr (t u:TT):TT:=fun σ H Q=>t σ H fun c H1=>if c=true then Q true H1 else u σ H1 Q
def tNot (t:TT):TT:=fun σ H Q=>t σ H fun c H1=>Q (!c) H1
theorem pw_and1 (ha:PT X a tA):PW X (.BoolOp .And [a] pos) tA:=by
 intro wh pins s σ H Q I h
 refine isTrue_and (thn (ha pins s σ H Q I h) fun c s1 e=>?_)
 cases c with
 | true=>exact isTrue_and_nil e
 | false=>exact e
theorem pw_or1 (ha:PT X a tA):PW X (.BoolOp .Or [a] pos) tA:=by
 intro wh pins s σ H Q I h
 refine isTrue_or (thn (ha pins s σ H Q I h) fun c s1 e=>?_)
 cases c with
 | false=>exact isTrue_or_nil e
 | true=>exact e
theorem pw_and (ha:PT X a tA)(hb:PW X (.BoolOp .And (b::rest) pos) tB'):PW X (.BoolOp .And (a::b::rest) pos) (tAnd tA tB'):=by
 intro wh pins s σ H Q I h
 refine isTrue_and (thn (ha pins s σ H _ I h) fun c s1 ⟨H1,I1,q1⟩=>?_)
 cases c with
 | true=>exact hb wh pins s1 σ H1 Q I1 q1
 | false=>exact⟨H1,I1,q1⟩
theorem pw_or (ha:PT X a tA)(hb:PW X (.BoolOp .Or (b::rest) pos) tB'):PW X (.BoolOp .Or (a::b::rest) pos) (tOr tA tB'):=by
 intro wh pins s σ H Q I h
 refine isTrue_or (thn (ha pins s σ H _ I h) fun c s1 ⟨H1,I1,q1⟩=>?_)
 cases c with
 | true=>exact⟨H1,I1,q1⟩
 | false=>exact hb wh pins s1 σ H1 Q I1 q1
theorem zHc (ha:PT X a tA):PT X (.UnaryOp .Not a pos) (tNot tA):=by
 intro pins s σ H Q I h
 exact isTrue_not (ha pins s σ H (fun c H1=>Q (!c) H1) I h)
def tAndV (ta tb:TE):TE:=fun σ H Q=>ta σ H fun x H1=>∃ c,x=.bl c∧if c=true then tb σ H1 Q else Q (.bl false) H1
def tNotV (ta:TE):TE:=fun σ H Q=>ta σ H fun x H1=>∃ c,x=.bl c∧Q (.bl (!c)) H1
theorem pe_one {op}{t:TE}(h:PE X a t):PE X (.BoolOp op [a] pos) t:=fun pins s σ H Q I hw=>BoolOp_one (h pins s σ H Q I hw)
theorem pe_and (ha:PE X a ta)(hb:PE X (.BoolOp .And (b::rest) pos) tb):PE X (.BoolOp .And (a::b::rest) pos) (tAndV ta tb):=by
 intro pins s σ H Q I h
 refine BoolOp_and (thn (ha pins s σ H _ I h) fun v s1 ⟨x,H1,I1,r1,q1⟩=>?_)
 obtain⟨c,rfl,q1⟩:=q1
 cases r1
 refine wpAny_truthy_bool ?_
 cases c with
 | true=>exact hb pins s1 σ H1 Q I1 q1
 | false=>exact⟨.bl false,H1,I1,rfl,q1⟩
theorem pe_not (ha:PE X a ta):PE X (.UnaryOp .Not a pos) (tNotV ta):=by
 intro pins s σ H Q I h
 refine UnaryOp_ (thn (ha pins s σ H _ I h) fun v s1 ⟨x,H1,I1,r1,q1⟩=>?_)
 obtain⟨c,rfl,q1⟩:=q1
 cases r1
 exact not_of (wpAny_truthy_bool ⟨.bl (!c),H1,I1,rfl,q1⟩)
def tIf (t:TT)(ta tb:TE):TE:=fun σ H Q=>t σ H fun c H1=>if c=true then ta σ H1 Q else tb σ H1 Q
theorem pe_ifExp {c:Expr}(hc:PT X c tA)(ha:PE X a ta)(hb:PE X b tb):PE X (.IfExp c a b pos) (tIf tA ta tb):=by
 intro pins s σ H Q I h
 refine wpAny_IfExp (thn (hc pins s σ H _ I h) fun d s1 ⟨H1,I1,q1⟩=>?_)
 cases d with
 | true=>exact ha pins s1 σ H1 Q I1 q1
 | false=>exact hb pins s1 σ H1 Q I1 q1
end
end L2
namespace L2
open PySem PySem.Spec PyProof.Rows
def SqL (K:PySem.W.Frag)(H:Hp)(a:Addr)(xs:List V):Prop :=
 Rd H a (.lst xs) ∨
  ∃ (o:Obj)(its:Array Value)(n:Nat),K.lookup a=some o∧o.cls=.type "list"∧o.dict=none∧o.data=.seq its n∧its.size≤sizeLine∧Vals xs its.toList
def SqT (K:PySem.W.Frag)(H:Hp)(a:Addr)(xs:List V):Prop :=
 Rd H a (.tup xs) ∨
  ∃ (o:Obj)(its:Array Value)(n:Nat),K.lookup a=some o∧o.cls=.type "tuple"∧o.data=.seq its n∧its.size≤sizeLine∧Vals xs its.toList
def absV:Value→Option V
 | .none=>some .non
 | .bool b=>some (.bl b)
 | .int i _=>some (.int i)
 | .str x _=>some (.str x)
 | .bytes b _=>some (.byt b)
 | .float b _=>some (.flt b)
 | .ref a=>some (.ref a)
 | .type n=>some (.ty n)
 | _=>none
theorem RelV.abs {x:V}{u:Value}(r:RelV x u):absV u=some x:=by
 cases x with
 | non=>cases r;rfl
 | bl _=>cases r;rfl
 | int _=>obtain⟨t,rfl⟩:=r;rfl
 | str _=>obtain⟨t,rfl⟩:=r;rfl
 | byt _=>obtain⟨t,rfl⟩:=r;rfl
 | flt _=>obtain⟨t,rfl⟩:=r;rfl
 | ref _=>cases r;rfl
 | ty _=>cases r;rfl
theorem RelV.inj {x y:V}{u:Value}(r:RelV x u)(q:RelV y u):x=y:=Option.some.inj (r.abs.symm.trans q.abs)
theorem Vals.inj:∀ {xs ys:List V}{us:List Value},Vals xs us→Vals ys us→xs=ys
 | _,_,_,.nil,.nil=>rfl
 | _,_,_,.cons r t,.cons r' t'=>by rw[r.inj r',Vals.inj t t']
section
variable {X:Cx}{pins:List (Addr×Obj)}{σ:St}{H:Hp}{s:Shared}{a:Addr}{xs ys:List V}
theorem SqL.of {K:PySem.W.Frag}(h:H a=some (.lst xs)):SqL K H a xs:=.inl (.inl h)
theorem SqT.of {K:PySem.W.Frag}(h:H a=some (.tup xs)):SqT K H a xs:=.inl (.inl h)
theorem Inv.list (I:Inv X pins σ H s)(h:SqL X.K H a xs):∃ its:List Value,Vals xs its∧PlainL s.heap a its.toArray∧xs.length≤sizeLine:=by
 rcases h with h | ⟨o,its,n,hk,hc,hd,hs,hz,r⟩
 ·obtain⟨z,its,n,r,e⟩:=h.ok I.hok
  exact⟨its,r,⟨_,n,e,rfl,rfl,rfl⟩,z⟩
 ·refine⟨its.toList,r,⟨o,n,I.kIn a o hk,hc,hd,by simpa using hs⟩,?_⟩
  have e:=r.length
  simp only [Array.length_toList] at e
  omega
theorem Inv.tuple (I:Inv X pins σ H s)(h:SqT X.K H a xs):∃ its:List Value,Vals xs its∧IsTup s.heap a its.toArray∧xs.length≤sizeLine:=by
 rcases h with h | ⟨o,its,n,hk,hc,hs,hz,r⟩
 ·obtain⟨z,its,r,p⟩:=h.ok I.hok
  exact⟨its,r,p,z⟩
 ·refine⟨its.toList,r,⟨o,I.kIn a o hk,hc,n,by simpa using hs⟩,?_⟩
  have e:=r.length
  simp only [Array.length_toList] at e
  omega
theorem Inv.zEg (I:Inv X pins σ H s)(h:SqL X.K H a xs)(h':SqL X.K H a ys):xs=ys:=by
 obtain⟨its,r,⟨o,n,e,_,_,d⟩,_⟩:=I.list h
 obtain⟨its',r',⟨o',n',e',_,_,d'⟩,_⟩:=I.list h'
 rw[e] at e';cases e'
 rw[d] at d'
 injection d' with d1 _
 have:its=its':=by simpa using congrArg Array.toList d1
 subst this
 exact r.inj r'
end
abbrev Cx.wish (X:Cx)(E:Value→Shared→Prop):Cx:={ X with xe:=E }
abbrev Cx.nox (X:Cx):Cx:=X.wish fun _ _=>False
theorem Cx.Ok.wish {X:Cx}(ok:X.Ok)(E:Value→Shared→Prop):(X.wish E).Ok :=
 ⟨ok.mod,ok.kind,ok.glob,ok.blt,ok.above,ok.inj,ok.has,ok.cab,ok.hd,ok.frames,ok.stk,ok.exf,ok.bs,ok.bsz,ok.noex,ok.exfs,ok.funs,ok.frf⟩
theorem Cx.Ok.zDg {X:Cx}{E:Value→Shared→Prop}(ok:(X.wish E).Ok):X.Ok :=
 ⟨ok.mod,ok.kind,ok.glob,ok.blt,ok.above,ok.inj,ok.has,ok.cab,ok.hd,ok.frames,ok.stk,ok.exf,ok.bs,ok.bsz,ok.noex,ok.exfs,ok.funs,ok.frf⟩
section
variable {X:Cx}{pins:List (Addr×Obj)}{σ:St}{H:Hp}{s:Shared}{E:Value→Shared→Prop}
theorem Inv.wish (I:Inv X pins σ H s)(E:Value→Shared→Prop):Inv (X.wish E) pins σ H s:=⟨I.ok.wish E,I.os,I.bare,I.base,I.loc,I.cell,I.free,I.freeC,I.pin,I.hok,I.len⟩
theorem Inv.zDg (I:Inv (X.wish E) pins σ H s):Inv X pins σ H s:=⟨I.ok.zDg,I.os,I.bare,I.base,I.loc,I.cell,I.free,I.freeC,I.pin,I.hok,I.len⟩
theorem SP.zDg {D:Ends}{f:Flow}{s':Shared}(h:SP (X.wish E) pins D f s'):SP X pins D f s':=by
 cases f with
 | next=>obtain⟨σ',H',I,q⟩:=h;exact⟨σ',H',I.zDg,q⟩
 | brk=>obtain⟨σ',H',I,q⟩:=h;exact⟨σ',H',I.zDg,q⟩
 | cont=>obtain⟨σ',H',I,q⟩:=h;exact⟨σ',H',I.zDg,q⟩
 | ret u=>obtain⟨v,σ',H',I,r,q⟩:=h;exact⟨v,σ',H',I.zDg,r,q⟩
theorem PSs.nox {st:List Stmt}{t:TS}(h:PSs X.nox st t):PSs X st t:=fun pins s σ H D I hw =>
 wpAny_mono (h pins s σ H D (I.wish _) hw) (fun _ _ q=>q.zDg) fun _ _ z=>False.elim z
end
section
variable {X:Cx}{st:Stmt}{rest:List Stmt}{t u:TS}{e:Expr}{te:TE}{pos:Pos}
def tNext:TS:=fun D σ H=>D.nx σ H
def tSeq (t u:TS):TS:=fun D σ H=>t { D with nx:=u D } σ H
theorem vQ:PSs X [] tNext:=fun _ _ σ H _ I h=>wpAny_execs_nil ⟨σ,H,I,h⟩
theorem zB (h1:PS X st t)(h2:PSs X rest u):PSs X (st::rest) (tSeq t u):=by
 intro pins s σ H D I h
 refine wpAny_execs_cons (thn (h1 pins s σ H { D with nx:=u D } I h) fun f s1 q=>?_)
 cases f with
 | next =>
  obtain⟨σ',H',I',q⟩:=q
  exact h2 pins s1 σ' H' D I' q
 | ret v=>exact q
 | brk=>exact q
 | cont=>exact q
theorem zI (h1:PS X st t):PSs X [st] t:=by
 intro pins s σ H D I h
 refine wpAny_execs_cons (thn (h1 pins s σ H D I h) fun f s1 q=>?_)
 cases f with
 | next=>exact wpAny_execs_nil q
 | ret v=>exact q
 | brk=>exact q
 | cont=>exact q
theorem Inv.quiet {pins:List (Addr×Obj)}{σ:St}{H:Hp}{s:Shared}(I:Inv X pins σ H s):interactive X.env=false:=by simp [interactive,I.ok.kind]
def tDrop (te:TE):TS:=fun D σ H=>te σ H fun _ H1=>D.nx σ H1
theorem zCc (he:PE X e te)(hs:swapsWith e none pos.line X.env=pure false:=by rfl):PS X (.Expr e pos) (tDrop te):=by
 intro pins s σ H D I h
 exact wpAny_Expr_any (thn (he pins s σ H _ I h) fun v s1 ⟨x,H1,I1,r1,q1⟩=>⟨σ,H1,I1,q1⟩) I.quiet hs
def tRet (te:TE):TS:=fun D σ H=>te σ H D.rt
theorem zU (he:PE X e te):PS X (.Return (some e) pos) (tRet te):=by
 intro pins s σ H D I h
 exact wpAny_Return_some (thn (he pins s σ H _ I h) fun v s1 ⟨x,H1,I1,r1,q1⟩=>⟨x,σ,H1,I1,r1,q1⟩)
def tIfS (c:TT)(t u:TS):TS:=fun D σ H=>c σ H fun b H1=>if b=true then t D σ H1 else u D σ H1
theorem wJ {c:Expr}{a b:List Stmt}{tc:TT}(hc:PT X c tc)(ha:PSs X a t)(hb:PSs X b u):PS X (.If c a b pos) (tIfS tc t u):=by
 intro pins s σ H D I h
 refine wpAny_If (thn (hc pins s σ H _ I h) fun d s1 ⟨H1,I1,q1⟩=>?_)
 cases d with
 | true=>exact ha pins s1 σ H1 D I1 q1
 | false=>exact hb pins s1 σ H1 D I1 q1
def tNever:TS:=fun _ _ _=>False
theorem ps_never:PS X st tNever:=fun _ _ _ _ _ _ h=>h.elim
end
abbrev TG:=V→St→Hp→(St→Hp→Prop)→Prop
abbrev TGs:=List V→St→Hp→(St→Hp→Prop)→Prop
def PG (X:Cx)(target:Expr)(t:TG):Prop :=
 ∀ (pins:List (Addr×Obj))(s:Shared)(σ:St)(H:Hp)(v:V)(u:Value)(Q:St→Hp→Prop),Inv X pins σ H s→RelV v u→t v σ H Q →
  wpAny (model X.prog X.w) X.A (assign target X.env u) (fun _ s'=>∃ σ' H',Inv X pins σ' H' s'∧Q σ' H') X.xe s
def PGs (X:Cx)(ts:List Expr)(t:TGs):Prop :=
 ∀ (pins:List (Addr×Obj))(s:Shared)(σ:St)(H:Hp)(vs:List V)(us:List Value)(Q:St→Hp→Prop),Inv X pins σ H s→Vals vs us→t vs σ H Q →
  wpAny (model X.prog X.w) X.A (assignInOrder ((assignEach ts X.env).map (·.2)) us) (fun _ s'=>∃ σ' H',Inv X pins σ' H' s'∧Q σ' H') X.xe s
abbrev TSet:=V→V→V→Hp→(Hp→Prop)→Prop
def PSet (X:Cx)(t:TSet):Prop :=
 ∀ (pins:List (Addr×Obj))(s:Shared)(σ:St)(H:Hp)(o i v:V)(ov iv u:Value)(Q:Hp→Prop),Inv X pins σ H s→RelV o ov→RelV i iv→RelV v u→t o i v H Q →
  wpAny (model X.prog X.w) X.A (setItem ov iv u) (fun _ s'=>∃ H',Inv X pins σ H' s'∧Q H') X.xe s
section
variable {X:Cx}{pos:Pos}
def jG (i:Nat):TG:=fun v σ H Q=>Q (σ.set i (some v)) H
theorem zL {i:Nat}{x:Str}(hN:X.N.Nodup)(hi:X.N[i]?=some x)(hx:Loc X.env.scope x)(hf:X.fn x=true∨X.env.scope.names.lookup x=some .local:=by first | exact .inl rfl | exact .inr rfl | assumption):PG X (.Name x pos) (jG i):=by
 intro pins s σ H v u Q I r h
 exact wpAny_assign_Name (store_ok I hN hi hx r (fun s' I'=>⟨_,H,I',h⟩) hf)
def gNil:TGs:=fun vs σ H Q=>vs=[]∧Q σ H
def gCons (t:TG)(u:TGs):TGs:=fun vs σ H Q=>∃ v r,vs=v::r∧t v σ H fun σ' H'=>u r σ' H' Q
theorem vV:PGs X [] gNil:=by
 intro pins s σ H vs us Q I r h
 obtain⟨e,h⟩:=h
 subst e
 cases r
 exact assignInOrder_nil ⟨σ,H,I,h⟩
theorem zO {e:Expr}{es:List Expr}{t:TG}{u:TGs}(h1:PG X e t)(h2:PGs X es u)
  (hs:(assignEach (e::es) X.env).map (·.2)=assign e X.env::(assignEach es X.env).map (·.2):=by rfl):PGs X (e::es) (gCons t u):=by
 intro pins s σ H vs us Q I r h
 obtain⟨v,vr,e1,h⟩:=h
 subst e1
 cases r with
 | cons r rr =>
  rw[hs]
  refine assignInOrder_cons (thn (h1 pins s σ H _ _ _ I r h) fun _ s1 ⟨σ1,H1,I1,q1⟩=>?_)
  exact h2 pins s1 σ1 H1 _ _ Q I1 rr q1
def gTup (K:PySem.W.Frag)(n:Nat)(t:TGs):TG:=fun v σ H Q=>∃ a xs,v=.ref a∧SqT K H a xs∧xs.length=n∧t xs σ H Q
theorem wB {es:List Expr}{k:Nat}{t:TGs}{n:Nat}(hc:X.calm=true)(h:PGs X es t)
  (hn:(assignEach es X.env).length=n:=by rfl)(hst:(assignEach es X.env).findIdx? (·.1)=none:=by rfl):PG X (.Tuple es k pos) (gTup X.K n t):=by
 intro pins s σ H v u Q I r hw
 obtain⟨a,xs,e1,hq,hl,hw⟩:=hw
 subst e1
 cases r
 obtain⟨its,rv,ht,hz⟩:=I.tuple hq
 refine assign_Tuple_tuple (I.ok.hd hc) ht (by simp [hn,← hl,rv.length]) hst fun h' hx=>?_
 have I1:Inv X pins σ H { s with heap:=h' }:=I.kept (t':=s.toks) fun b o e=>hx b o (Nat.ne_of_lt (Heap.lt_size e)) e
 exact h pins _ σ H xs _ Q I1 (by simpa using rv) hw
def gSub (to ti:TE)(t:TSet):TG:=fun v σ H Q=>to σ H fun o H1=>ti σ H1 fun i H2=>t o i v H2 fun H3=>Q σ H3
theorem zDl {o i:Expr}{to ti:TE}{t:TSet}(ho:PE X o to)(hi:PE X i ti)(hs:PSet X t)
  (ha:∀ v,assign (.Subscript o i pos) X.env v=(do
   let ov ← holding [v] (eval o X.env)
   let iv ← holding [v,ov] (eval i X.env)
   standAt pos
   holding [v,ov,iv] (setItem ov iv v)
   release [v,ov,iv] []):=by intro _;rfl):PG X (.Subscript o i pos) (gSub to ti t):=by
 intro pins s σ H v u Q I r h
 rw[ha]
 refine wpAny_bind (wpAny_holding (thn (ho pins s σ H _ I h) fun ov s1 ⟨x,H1,I1,r1,q1⟩=>?_))
 refine wpAny_bind (wpAny_holding (thn (hi pins s1 σ H1 _ I1 q1) fun iv s2 ⟨y,H2,I2,r2,q2⟩=>?_))
 refine wpAny_bind (wpAny_standAt (wpAny_bind (wpAny_holding (thn (hs pins s2 σ H2 x y v ov iv u _ I2 r1 r2 r q2) fun _ s3 ⟨H3,I3,q3⟩=>?_))))
 exact wpAny_release ⟨σ,H3,I3,q3⟩
def tAsg (te:TE)(g:TG):TS:=fun D σ H=>te σ H fun x H1=>g x σ H1 D.nx
theorem zCr {tg e:Expr}{te:TE}{g:TG}(he:PE X e te)(hg:PG X tg g)(hs:swapsWithSole [tg] e pos.line X.env=pure false:=by rfl)(hw:swappedStores [tg] e X.env=pure none:=by rfl)
  (h1:(assignEach [tg] X.env).map (·.2)=[assign tg X.env]:=by rfl):PS X (.Assign [tg] e pos) (tAsg te g):=by
 intro pins s σ H D I h
 refine wpAny_Assign_stores (thn (he pins s σ H _ I h) fun v s1 ⟨x,H1,I1,r1,q1⟩=>?_) hs hw
 rw[h1]
 exact thn (hg pins s1 σ H1 x v _ I1 r1 q1) fun _ s2 q=>q
theorem zM {i:Nat}{x:Str}{e:Expr}{te:TE}{pos':Pos}(hN:X.N.Nodup)(hi:X.N[i]?=some x)(hx:Loc X.env.scope x)(he:PE X e te)(hs:swapsWith e (some (.Name x pos')) pos.line X.env=pure false:=by rfl)(hf:X.fn x=true∨X.env.scope.names.lookup x=some .local:=by first | exact .inl rfl | exact .inr rfl | assumption) :
  PS X (.Assign [.Name x pos'] e pos) (tAsg te (jG i)):=by
 intro pins s σ H D I h
 refine wpAny_Assign_Name (thn (he pins s σ H _ I h) fun v s1 ⟨y,H1,I1,r1,q1⟩=>?_) hs
 exact store_ok I1 hN hi hx r1 (fun s2 I2=>⟨_,H1,I2,q1⟩) hf
end
section
variable {X:Cx}{pos:Pos}
def tWhile (c:TT)(tb:TS):TS:=fun D σ H=>∃ W:Nat→St→Hp→Prop,(∃ m,W m σ H)∧∀ m σ H,W m σ H →
 c σ H fun b H1=>if b=true then ∃ N:St→Hp→Prop,(∀ σ' H',N σ' H'→∃ m',m' < m∧W m' σ' H')∧tb { D with nx:=N,ct:=N,bk:=D.nx } σ H1 else D.nx σ H1
theorem w5 {c:Expr}{body:List Stmt}{tc:TT}{tb:TS}(hp:PassesOwn (model X.prog X.w) X.A X.env X.xe)(hc:PT X c tc)(hb:PSs X body tb):PS X (.While c body [] pos) (tWhile tc tb):=by
 intro pins s σ H D I h
 obtain⟨W,⟨m0,w0⟩,turn⟩:=h
 refine wpAny_While (codeAny_whileLoop (fun n s'=>∃ σ' H',Inv X pins σ' H' s'∧W n σ' H') ?_ m0 ⟨σ,H,I,w0⟩)
 rintro n s1 ⟨σ1,H1,I1,w1⟩
 refine wpAny_passesOwn hp (thn (hc pins s1 σ1 H1 _ I1 (turn n σ1 H1 w1)) fun b s2 ⟨H2,I2,q2⟩=>?_)
 cases b with
 | true =>
  obtain⟨N,hN,q2⟩:=q2
  rw[if_pos rfl]
  refine wpAny_passesOwn hp (thn (hb pins s2 σ1 H2 _ I2 q2) fun f s3 q3=>?_)
  cases f with
  | next =>
   obtain⟨σ3,H3,I3,n3⟩:=q3
   obtain⟨m',hm,w3⟩:=hN σ3 H3 n3
   exact⟨m',hm,σ3,H3,I3,w3⟩
  | cont =>
   obtain⟨σ3,H3,I3,n3⟩:=q3
   obtain⟨m',hm,w3⟩:=hN σ3 H3 n3
   exact⟨m',hm,σ3,H3,I3,w3⟩
  | brk=>exact q3
  | ret v=>exact q3
 | false =>
  rw[if_neg Bool.false_ne_true]
  exact wpAny_execs_nil ⟨σ1,H2,I2,q2⟩
end
structure It where
 go:Nat→Hp→Prop
 yld:Nat→Hp→V→Hp→Prop
 stop:Nat→Hp→Prop
def FpOk (X:Cx)(pins:List (Addr×Obj))(H:Hp)(b:Addr):Prop :=
 H b=none∧b≠X.env.locals∧b∉X.fs∧(b∈X.ex∨X.s₀.heap.objs.size≤b)∧(∀ x c,X.env.cells.lookup x=some c→c≠b)∧∀ p∈X.pn ++ pins,p.1≠b
theorem Inv.fpOk {X:Cx}{pins:List (Addr×Obj)}{σ:St}{H H':Hp}{s:Shared}{b:Addr}(I:Inv X pins σ H s)(hb:s.heap.objs.size≤b)(hn:H' b=none):FpOk X pins H' b:=by
 refine⟨hn,Nat.ne_of_gt (Nat.lt_of_lt_of_le I.lt hb),I.nofs hb,.inr (Nat.le_trans I.sz hb),fun x c e z=>?_,fun p hp z=>?_⟩
 ·obtain⟨v,q⟩:=I.cell x c e
  exact absurd (Nat.lt_of_lt_of_le q.lt (by rw[z];exact hb)) (Nat.lt_irrefl _)
 ·exact absurd (Nat.lt_of_lt_of_le (Heap.lt_size (I.pin p hp).1) (by rw[z];exact hb)) (Nat.lt_irrefl _)
structure Turn (P:Program)(w:World)(K:PySem.W.Frag)(tg:Expr)(J:It)(fp:List Addr)(it:Addr)(tn:Nat→Heap→Prop):Prop where
 mem:it∈fp
 obj:∀ i h,tn i h→∀ b∈fp,∃ o,h.get? b=some o∧∀ v,o.data≠.cell v
 keep:∀ i h h',tn i h→(∀ b∈fp,∀ o,h.get? b=some o→h'.get? b=some o)→tn i h'
 item:∀ (X:Cx),X.prog=P→X.w=w→X.K=K→X.calm=true→∀ (i:Nat)(pins:List (Addr×Obj))(s:Shared)(σ:St)(H:Hp)(E:Value→Shared→Prop),Inv X pins σ H s→(∀ b∈fp,FpOk X pins H b)→tn i s.heap→J.go i H →
  wpAny (model P w) X.A (pyNext (.ref it)) (fun r s1=>∃ u,r=some u ∧
   wpAny (model P w) X.A (letOwnedTupleGo tg (.ref it) u) (fun _ s2=>∃ x H',Inv X pins σ H' s2∧RelV x u∧J.yld i H x H'∧tn (i+1) s2.heap∧∀ b∈fp,H' b=none) E s1) E s
 done:∀ (X:Cx),X.prog=P→X.w=w→X.K=K→X.calm=true→∀ (i:Nat)(pins:List (Addr×Obj))(s:Shared)(σ:St)(H:Hp)(E:Value→Shared→Prop),Inv X pins σ H s→(∀ b∈fp,FpOk X pins H b)→tn i s.heap→J.stop i H →
  wpAny (model P w) X.A (pyNext (.ref it)) (fun r s1=>r=none∧Inv X pins σ H s1) E s
 self:∀ (A:Around)(i:Nat)(s:Shared)(Q:Value→Shared→Prop)(E:Value→Shared→Prop),tn i s.heap→Q (.ref it) s→wpAny (model P w) A (pyIter (.ref it)) Q E s
abbrev TI:=St→Hp→(It→Hp→Prop)→Prop
def PIE (X:Cx)(pins:List (Addr×Obj))(σ:St)(tg:Expr)(R:It→Hp→Prop)(itv:Value)(s2:Shared):Prop :=
 ∃ (it:Addr)(fp:List Addr)(tn:Nat→Heap→Prop)(J:It)(H':Hp),itv=.ref it∧Inv X pins σ H' s2∧Turn X.prog X.w X.K tg J fp it tn∧tn 0 s2.heap∧(∀ b∈fp,FpOk X pins H' b)∧R J H'
def PI (X:Cx)(tg iter:Expr)(wi:TI):Prop :=
 ∀ (pins:List (Addr×Obj))(s:Shared)(σ:St)(H:Hp)(R:It→Hp→Prop),Inv X pins σ H s→wi σ H R →
  wpAny (model X.prog X.w) X.A (eval iter X.env) (fun v s1=>wpAny (model X.prog X.w) X.A (pyIter v) (PIE X pins σ tg R) X.xe s1) X.xe s
theorem go_of {M:Model}{A:Around}{E:Value→Shared→Prop}{s:Shared}{tg:Expr}{it:Addr}{u:Value}{o:Obj}{n:String}{vs:Array Value}{Q:Unit→Shared→Prop}(ho:s.heap.get? it=some o)(hc:o.cls=.type n)(hd:o.data=.fields vs)
    (hn:["enumerate","zip","dict_itemiterator","dict_reverseitemiterator","odict_iterator","itertools.zip_longest","itertools.pairwise"].contains n=false)(hQ:Q () s):wpAny M A (letOwnedTupleGo tg (.ref it) u) Q E s:=by
  unfold letOwnedTupleGo
  cases tg <;> first
    | exact wpAny_pure hQ
    | (cases u <;> first
        | exact wpAny_pure hQ
        | (refine wpAny_bind (wpAny_load ho ?_)
           rw[hc,hd]
           show wpAny M A (if (["enumerate","zip","dict_itemiterator","dict_reverseitemiterator","odict_iterator","itertools.zip_longest","itertools.pairwise"].contains n && vs[0]? == some (rawInt _))=true then _ else _) Q E s
           rw[if_neg (by intro h;rw[hn,Bool.false_and] at h;cases h)]
           exact wpAny_pure hQ))
def Itl (K:PySem.W.Frag)(a:Addr):It :=
 ⟨fun i H=>∃ xs x,SqL K H a xs∧xs[i]?=some x,fun i H x H'=>H'=H∧∀ xs,SqL K H a xs→xs[i]?=some x,fun i H=>∃ xs,SqL K H a xs∧xs.length≤i⟩
def Itr (lo:Int)(n:Nat):It:=⟨fun i _=>i < n,fun i H x H'=>H'=H∧x=.int (lo+i),fun i _=>n≤i⟩
theorem turn_list {P:Program}{w:World}{K:PySem.W.Frag}{tg:Expr}(a it:Addr):Turn P w K tg (Itl K a) [it] it (fun i h=>h.IsListIter it a i) where
 mem:=by simp
 obj:=fun i h st b hb=>by
  have e:b=it:=by simpa using hb
  subst e
  obtain⟨o,e,c,d⟩:=st
  exact⟨o,e,fun v z=>by rw[d] at z;cases z⟩
 keep:=fun i h h' st k=>st.at fun o e=>k it (by simp) o e
 item:=by
  intro X hP hw hK hc i pins s σ H E I hf st hg
  subst hP hw hK
  obtain⟨xs,x,hq,hx⟩:=hg
  obtain⟨its,rv,p,hz⟩:=I.list hq
  obtain⟨u,hu,ru⟩:=rv.get hx
  obtain⟨f0,f1,f2,f3,f4,f5⟩:=hf it (by simp)
  refine wpAny_pyNext_list_item st p.isList (x:=u) (by simpa using hu) fun h' st' sb=>?_
  have I1:Inv X pins σ H { s with heap:=h' }:=I.turned (t':=s.toks) (fun b o hb e=>(sb.2 b hb).trans e) f0 f1 f3 f4 f5
  obtain⟨o,e,c,d⟩:=id st'
  exact⟨u,rfl,go_of (s:={ s with heap:=h' }) e c d (by decide) ⟨x,H,I1,ru,⟨rfl,fun ys hy=>by rw[I.zEg hy hq];exact hx⟩,st',fun b hb=>(hf b hb).1⟩⟩
 done:=by
  intro X hP hw hK hc i pins s σ H E I hf st hg
  subst hP hw hK
  obtain⟨xs,hq,hx⟩:=hg
  obtain⟨its,rv,p,hz⟩:=I.list hq
  obtain⟨f0,f1,f2,f3,f4,f5⟩:=hf it (by simp)
  have hl:=rv.length
  exact wpAny_pyNext_list_end (I.ok.hd hc) st p.isList (by simp;omega) fun h' eb=>⟨rfl,I.turned (t':=s.toks) (fun b o hb e=>eb b o hb e) f0 f1 f3 f4 f5⟩
 self:=fun _ _ _ _ _ st h=>wpAny_pyIter_listiter st h
theorem turn_range {P:Program}{w:World}{K:PySem.W.Frag}{tg:Expr}(it:Addr)(lo:Int)(n:Nat):Turn P w K tg (Itr lo n) [it] it (fun i h=>IsRangeIter h it (lo+(i:Nat)*1) ((n:Int)-(i:Nat)) 1) where
 mem:=by simp
 obj:=fun i h st b hb=>by
  have e:b=it:=by simpa using hb
  subst e
  exact⟨_,st,fun v z=>by
   have z':Data.fields _=Data.cell v:=z
   cases z'⟩
 keep:=fun i h h' st k=>k it (by simp) _ st
 item:=by
  intro X hP hw hK hc i pins s σ H E I hf st hg
  subst hP hw hK
  obtain⟨f0,f1,f2,f3,f4,f5⟩:=hf it (by simp)
  have W:=Walks.range (prog:=X.prog) (w:=X.w) (I.ok.hd hc) it lo 1 n
  refine W.item i s _ _ hg st fun v h' tk hv st' kk=>?_
  obtain⟨t,rfl⟩:=hv
  have I1:Inv X pins σ H { s with heap:=h',toks:=tk }:=I.turned (fun b o hb e=>kk b o (by simpa using hb) e) f0 f1 f3 f4 f5
  refine⟨_,rfl,go_of (s:={ s with heap:=h',toks:=tk }) (n:="range_iterator") st' rfl rfl (by decide) ⟨.int (lo+i),H,I1,⟨t,?_⟩,⟨rfl,rfl⟩,st',fun b hb=>(hf b hb).1⟩⟩
  rw[Int.mul_one]
 done:=by
  intro X hP hw hK hc i pins s σ H E I hf st hg
  subst hP hw hK
  obtain⟨f0,f1,f2,f3,f4,f5⟩:=hf it (by simp)
  exact wpAny_pyNext_range_end (I.ok.hd hc) st (by have:n≤i:=hg;omega) fun h' eb=>⟨rfl,I.turned (t':=s.toks) (fun b o hb e=>eb b o hb e) f0 f1 f3 f4 f5⟩
 self:=fun _ _ _ _ _ st h=>wpAny_pyIter_rangeiter st h
end L2
namespace L2
open PySem PySem.Spec PyProof.Rows
section
variable {X:Cx}{tg:Expr}
def iList (K:PySem.W.Frag)(tl:TE):TI:=fun σ H R=>tl σ H fun x H1=>∃ a,x=.ref a∧(∃ xs,SqL K H1 a xs)∧R (Itl K a) H1
theorem vS {l:Expr}{tl:TE}(hl:PE X l tl):PI X tg l (iList X.K tl):=by
 intro pins s σ H R I h
 refine thn (hl pins s σ H _ I h) fun v s1 ⟨x,H1,I1,r1,q1⟩=>?_
 obtain⟨a,e,⟨xs,hq⟩,q⟩:=q1
 subst e
 cases r1
 obtain⟨its,rv,p,hz⟩:=I1.list hq
 refine wpAny_pyIter_list p.isList ?_
 refine⟨s1.heap.objs.size,[s1.heap.objs.size],_,_,H1,rfl,I1.kept (t':=s1.toks) fun b o e=>Heap.get?_push_of_some _ e,turn_list a _,⟨_,Heap.get?_push_size _ rfl,rfl,rfl⟩,fun b hb=>?_,q⟩
 have e:b=s1.heap.objs.size:=by simpa using hb
 subst e
 exact I1.fpOk (Nat.le_refl _) (I1.hok.fresh (Nat.le_refl _))
theorem range_it {pins:List (Addr×Obj)}{σ:St}{H:Hp}{s:Shared}{R:It→Hp→Prop}{E:Value→Shared→Prop}{lo hi:Int}{t u v:Tok}{tk:Nat}(I:Inv X pins σ H s)(h1:-(2^62)≤lo)(h2:lo < 2^62)(h3:-(2^62)≤hi)(h4:hi < 2^62)
  (q:R (Itr lo (hi-lo).toNat) H):wpAny (model X.prog X.w) X.A (pyIter (.ref s.heap.objs.size)) (PIE X pins σ tg R) E { s with heap:=s.heap.push { cls:=.type "range",data:=.fields #[.int lo t,.int hi u,.int 1 v] },toks:=tk }:=by
 refine wpAny_pyIter_range (IsRange.new ..) (small_one h1 h2 h3 h4) ?_
 have I1:Inv X pins σ H { s with heap:=s.heap.push { cls:=.type "range",data:=.fields #[.int lo t,.int hi u,.int 1 v] },toks:=tk }:=I.kept fun b o e=>Heap.get?_push_of_some _ e
 refine⟨(s.heap.push { cls:=.type "range",data:=.fields #[.int lo t,.int hi u,.int 1 v] }).objs.size,[(s.heap.push { cls:=.type "range",data:=.fields #[.int lo t,.int hi u,.int 1 v] }).objs.size],_,_,H,rfl,
  I1.kept (t':=tk) fun b o e=>Heap.get?_push_of_some _ e,turn_range _ lo (hi-lo).toNat,?_,fun b hb=>?_,q⟩
 ·have e1:lo+((0:Nat):Int)*1=lo:=by simp
  have e2:(((hi-lo).toNat:Nat):Int)-((0:Nat):Int)=Builtin.Range.rangeSize lo hi 1:=by rw[rangeSize_one];split <;> omega
  show IsRangeIter _ _ (lo+((0:Nat):Int)*1) ((((hi-lo).toNat:Nat):Int)-((0:Nat):Int)) 1
  rw[e1,e2]
  exact Heap.get?_push_size _ rfl
 ·have e:b=(s.heap.push { cls:=.type "range",data:=.fields #[.int lo t,.int hi u,.int 1 v] }).objs.size:=by simpa using hb
  subst e
  exact I1.fpOk (Nat.le_refl _) (I1.hok.fresh (Nat.le_refl _))
def iRng1 (ta:TA):TI:=fun σ H R=>ta σ H fun vs H1=>∃ j:Int,vs=[.int j]∧-(2^62)≤j∧j < 2^62∧R (Itr 0 j.toNat) H1
def iRng2 (ta:TA):TI:=fun σ H R=>ta σ H fun vs H1=>∃ i j:Int,vs=[.int i,.int j]∧(-(2^62)≤i∧i < 2^62∧-(2^62)≤j∧j < 2^62)∧R (Itr i (j-i).toNat) H1
theorem wN {a:Expr}{ta:TA}{p pos:Pos}(hg:Gl X "range")(hm:X.mg "range"=none)(ha:PA X [a] ta)(hs:starEach [a] X.env=[(false,eval a X.env)]:=by rfl):PI X tg (.Call (.Name "range" p) [a] [] pos) (iRng1 ta):=by
 intro pins s σ H R I h
 refine Call_ (zDe I hg hm boot_range (PyProof.Rows.callWith_type1 (thn (ha pos pins s σ H _ I h) fun us s1 ⟨vs,H1,I1,r1,q1⟩=>?_) hs rfl))
 obtain⟨j,e,q1,q2,q⟩:=q1
 subst e
 cases r1 with
 | cons r rr =>
  cases rr
  obtain⟨t,rfl⟩:=r
  exact call_range_1 (range_it I1 (by omega) (by omega) q1 q2 (by simpa using q))
theorem pi_range2 {a b:Expr}{ta:TA}{p pos:Pos}(hg:Gl X "range")(hm:X.mg "range"=none)(ha:PA X [a,b] ta)(hs:starEach [a,b] X.env=[(false,eval a X.env),(false,eval b X.env)]:=by rfl)(hs2:starEach [b] X.env=[(false,eval b X.env)]:=by rfl) :
  PI X tg (.Call (.Name "range" p) [a,b] [] pos) (iRng2 ta):=by
 intro pins s σ H R I h
 refine Call_ (zDe I hg hm boot_range (PyProof.Rows.callWith_type1 (thn (ha pos pins s σ H _ I h) fun us s1 ⟨vs,H1,I1,r1,q1⟩=>?_) (by rw[hs,hs2]) (by rw[hs2];rfl)))
 obtain⟨i,j,e,⟨q1,q2,q3,q4⟩,q⟩:=q1
 subst e
 cases r1 with
 | cons r rr =>
  cases rr with
  | cons r' rr =>
   cases rr
   obtain⟨t,rfl⟩:=r
   obtain⟨t',rfl⟩:=r'
   exact call_range_2 (range_it I1 q1 q2 q3 q4 q)
def tFor (wi:TI)(g:TG)(tb:TS):TS:=fun D σ H=>wi σ H fun J H1=>∃ W:Nat→Nat→St→Hp→Prop,(∃ m,W 0 m σ H1)∧∀ i m σ H,W i m σ H →
 (J.stop i H∧D.nx σ H)∨(J.go i H∧∃ N:St→Hp→Prop,(∀ σ' H',N σ' H'→∃ m',m' < m∧W (i+1) m' σ' H')∧∀ x H',J.yld i H x H'→g x σ H' fun σ2 H2=>tb { D with nx:=N,ct:=N,bk:=D.nx } σ2 H2)
def zGs (fp:List Addr)(h:Heap):List (Addr×Obj):=fp.filterMap fun b=>(h.get? b).map fun o=>(b,o)
theorem zBc {fp:List Addr}{h:Heap}{b:Addr}{o:Obj}(hb:b∈fp)(e:h.get? b=some o):(b,o)∈zGs fp h:=List.mem_filterMap.mpr ⟨b,hb,by rw[e];rfl⟩
theorem of_pinsAt {fp:List Addr}{h:Heap}{p:Addr×Obj}(hp:p∈zGs fp h):p.1∈fp∧h.get? p.1=some p.2:=by
 obtain⟨b,hb,e⟩:=List.mem_filterMap.mp hp
 cases q:h.get? b with
 | none=>rw[q] at e;cases e
 | some o =>
  rw[q] at e
  have e':(b,o)=p:=Option.some.inj e
  subst e'
  exact⟨hb,q⟩
theorem Inv.pinned {pins:List (Addr×Obj)}{σ:St}{H:Hp}{s:Shared}{fp:List Addr}(I:Inv X pins σ H s)(hf:∀ b∈fp,FpOk X pins H b)(ho:∀ b∈fp,∃ o,s.heap.get? b=some o∧∀ v,o.data≠.cell v):Inv X (pins ++ zGs fp s.heap) σ H s :=
 I.zAo fun p hp=>(List.mem_append.mp hp).elim (fun z=>I.pin p (List.mem_append_right _ z)) fun z=>by
  obtain⟨hb,e⟩:=of_pinsAt z
  obtain⟨f0,f1,f2,_⟩:=hf p.1 hb
  obtain⟨o,e',d⟩:=ho p.1 hb
  rw[e] at e';cases e'
  exact⟨e,f0,f1,f2,d⟩
theorem Inv.unpinned {pins pl:List (Addr×Obj)}{σ:St}{H:Hp}{s:Shared}(I:Inv X (pins ++ pl) σ H s):Inv X pins σ H s:=I.zAo fun p hp=>I.pin p (List.mem_append_right _ (List.mem_append_left _ hp))
theorem wM {iter:Expr}{body:List Stmt}{wi:TI}{g:TG}{tb:TS}{pos:Pos}(hp:PassesOwn (model X.prog X.w) X.A X.env X.xe)(hc:X.calm=true)(hi:PI X tg iter wi)(hg:PG X tg g)(hb:PSs X body tb)
  (hs:∀ x,foldedSetIterable iter X.env x=pure x:=by intro _;rfl):PS X (.For tg iter body [] pos) (tFor wi g tb):=by
 intro pins s σ H D I h
 refine wpAny_For (thn (hi pins s σ H _ I h) fun v s1 h1=>thn h1 fun itv s2 h2=>?_) hs
 obtain⟨it,fp,tn,J,H2,e,I2,T,st2,f2,W,⟨m0,w0⟩,turn⟩:=h2
 subst e
 -- what stays true of the iterator's objects through the loop
 have stat:∀ {H':Hp},(∀ b∈fp,H' b=none)→∀ b∈fp,FpOk X pins H' b:=fun hn b hb=>⟨hn b hb,(f2 b hb).2⟩
 refine codeAny_forLoop_any (fun n s'=>∃ i σ' H',Inv X pins σ' H' s'∧tn i s'.heap∧(∀ b∈fp,H' b=none)∧W i n σ' H') ?_ m0 ⟨0,σ,H2,I2,st2,fun b hb=>(f2 b hb).1,w0⟩
 rintro n s3 ⟨i,σ3,H3,I3,st3,fr3,w3⟩
 rcases turn i n σ3 H3 w3 with ⟨stop,qn⟩ | ⟨go,N,hN,step⟩
 ·refine wpAny_passesOwn hp (thn (T.done X rfl rfl rfl hc i pins s3 σ3 H3 X.xe I3 (stat fr3) st3 stop) fun r s4 ⟨hr,I4⟩=>?_)
  subst hr
  exact wpAny_execs_nil ⟨σ3,H3,I4,qn⟩
 ·refine wpAny_passesOwn hp (thn (T.item X rfl rfl rfl hc i pins s3 σ3 H3 X.xe I3 (stat fr3) st3 go) fun r s4 ⟨u,hr,h4⟩=>?_)
  subst hr
  refine wpAny_passesOwn hp (thn h4 fun _ s5 ⟨x,H5,I5,r5,y5,st5,fr5⟩=>?_)
  have I5':=I5.pinned (stat fr5) (T.obj _ _ st5)
  refine wpAny_passesOwn hp (thn (hg _ s5 σ3 H5 x u _ I5' r5 (step x H5 y5)) fun _ s6 ⟨σ6,H6,I6,q6⟩=>?_)
  refine wpAny_passesOwn hp (thn (hb _ s6 σ6 H6 _ I6 q6) fun f s7 q7=>?_)
  have again:∀ {σ7:St}{H7:Hp},Inv X (pins ++ zGs fp s5.heap) σ7 H7 s7→N σ7 H7→∃ m,m < n∧∃ i σ' H',Inv X pins σ' H' s7∧tn i s7.heap∧(∀ b∈fp,H' b=none)∧W i m σ' H':=fun {σ7 H7} I7 n7=>by
   obtain⟨m',hm,w7⟩:=hN σ7 H7 n7
   refine⟨m',hm,i+1,σ7,H7,I7.unpinned,T.keep _ _ _ st5 fun b hb o e=>(I7.pin (b,o) (List.mem_append_right _ (List.mem_append_right _ (zBc hb e)))).1,fun b hb=>?_,w7⟩
   obtain⟨o,e,d⟩:=T.obj _ _ st5 b hb
   exact (I7.pin (b,o) (List.mem_append_right _ (List.mem_append_right _ (zBc hb e)))).2.1
  cases f with
  | next=>obtain⟨σ7,H7,I7,n7⟩:=q7;exact again I7 n7
  | cont=>obtain⟨σ7,H7,I7,n7⟩:=q7;exact again I7 n7
  | brk=>obtain⟨σ7,H7,I7,q7⟩:=q7;exact⟨σ7,H7,I7.unpinned,q7⟩
  | ret v=>obtain⟨x7,σ7,H7,I7,r7,q7⟩:=q7;exact⟨x7,σ7,H7,I7.unpinned,r7,q7⟩
end
theorem for_list {K:PySem.W.Frag}{a:Addr}{xs:List V}{g:TG}{tb:TS}{D:Ends}{σ:St}{H:Hp}(Pv:Nat→St→Hp→Prop)(h0:Pv 0 σ H)(hl:∀ i σ H,i≤xs.length→Pv i σ H→SqL K H a xs)
  (hs:∀ i x σ H,xs[i]?=some x→Pv i σ H→g x σ H fun σ2 H2=>tb { D with nx:=Pv (i+1),ct:=Pv (i+1),bk:=D.nx } σ2 H2)(hd:∀ σ H,Pv xs.length σ H→D.nx σ H) :
  ∃ W:Nat→Nat→St→Hp→Prop,(∃ m,W 0 m σ H)∧∀ i m σ H,W i m σ H →
   ((Itl K a).stop i H∧D.nx σ H)∨((Itl K a).go i H∧∃ N:St→Hp→Prop,(∀ σ' H',N σ' H'→∃ m',m' < m∧W (i+1) m' σ' H')∧∀ x H',(Itl K a).yld i H x H'→g x σ H' fun σ2 H2=>tb { D with nx:=N,ct:=N,bk:=D.nx } σ2 H2):=by
 refine⟨fun i m σ H=>m=xs.length-i∧i≤xs.length∧Pv i σ H,⟨xs.length,by simp,Nat.zero_le _,h0⟩,?_⟩
 rintro i m σ H ⟨rfl,hi,p⟩
 have q:=hl i σ H hi p
 by_cases hlt:i < xs.length
 ·refine .inr ⟨⟨xs,xs[i],q,by simp [hlt]⟩,Pv (i+1),fun σ' H' p'=>⟨xs.length-(i+1),by omega,rfl,hlt,p'⟩,fun x H' y=>?_⟩
  obtain⟨e,y⟩:=y
  subst e
  exact hs i x σ _ (y xs q) p
 ·have e:i=xs.length:=by omega
  subst e
  exact .inl ⟨⟨xs,q,Nat.le_refl _⟩,hd σ H p⟩
theorem for_range {lo:Int}{n:Nat}{g:TG}{tb:TS}{D:Ends}{σ:St}{H:Hp}(Pv:Nat→St→Hp→Prop)(h0:Pv 0 σ H)
  (hs:∀ i σ H,i < n→Pv i σ H→g (.int (lo+i)) σ H fun σ2 H2=>tb { D with nx:=Pv (i+1),ct:=Pv (i+1),bk:=D.nx } σ2 H2)(hd:∀ σ H,Pv n σ H→D.nx σ H) :
  ∃ W:Nat→Nat→St→Hp→Prop,(∃ m,W 0 m σ H)∧∀ i m σ H,W i m σ H →
   ((Itr lo n).stop i H∧D.nx σ H)∨((Itr lo n).go i H∧∃ N:St→Hp→Prop,(∀ σ' H',N σ' H'→∃ m',m' < m∧W (i+1) m' σ' H')∧∀ x H',(Itr lo n).yld i H x H'→g x σ H' fun σ2 H2=>tb { D with nx:=N,ct:=N,bk:=D.nx } σ2 H2):=by
 refine⟨fun i m σ H=>m=n-i∧i≤n∧Pv i σ H,⟨n,by simp,Nat.zero_le _,h0⟩,?_⟩
 rintro i m σ H ⟨rfl,hi,p⟩
 by_cases hlt:i < n
 ·refine .inr ⟨hlt,Pv (i+1),fun σ' H' p'=>⟨n-(i+1),by omega,rfl,hlt,p'⟩,fun x H' y=>?_⟩
  obtain⟨e,y⟩:=y
  subst e y
  exact hs i σ _ hlt p
 ·have e:i=n:=by omega
  subst e
  exact .inl ⟨Nat.le_refl _,hd σ H p⟩
end L2
namespace L2
open PySem PySem.Spec PyProof.Rows
abbrev R2:=V→V→Hp→VK→Prop
def OpR (X:Cx)(f:Value→Value→Sem Value)(r:R2):Prop :=
 ∀ (pins:List (Addr×Obj))(s:Shared)(σ:St)(H:Hp)(x y:V)(v u:Value)(Q:VK),Inv X pins σ H s→RelV x v→RelV y u→r x y H Q →
  wpAny (model X.prog X.w) X.A (f v u) (EP X pins σ Q) X.xe s
def UnR (X:Cx)(f:Value→Sem Value)(r:V→Hp→VK→Prop):Prop :=
 ∀ (pins:List (Addr×Obj))(s:Shared)(σ:St)(H:Hp)(x:V)(v:Value)(Q:VK),Inv X pins σ H s→RelV x v→r x H Q →
  wpAny (model X.prog X.w) X.A (f v) (EP X pins σ Q) X.xe s
def zEb (X:Cx)(f:Value)(r:List V→Hp→VK→Prop):Prop :=
 ∀ (pins:List (Addr×Obj))(s:Shared)(σ:St)(H:Hp)(xs:List V)(us:List Value)(Q:VK),Inv X pins σ H s→Vals xs us→r xs H Q →
  wpAny (model X.prog X.w) X.A (call f us) (EP X pins σ Q) X.xe s
def tOp (r:R2)(ta tb:TE):TE:=fun σ H Q=>ta σ H fun x H1=>tb σ H1 fun y H2=>r x y H2 Q
def tUn (r:V→Hp→VK→Prop)(ta:TE):TE:=fun σ H Q=>ta σ H fun x H1=>r x H1 Q
def rI (C:Int→Int→Prop)(g:Int→Int→V):R2:=fun x y H Q=>∃ i j,x=.int i∧y=.int j∧C i j∧Q (g i j) H
def rI0 (g:Int→Int→V):R2:=fun x y H Q=>∃ i j,x=.int i∧y=.int j∧Q (g i j) H
def rU (g:Int→V):V→Hp→VK→Prop:=fun x H Q=>∃ i,x=.int i∧Q (g i) H
section
variable {X:Cx}{a b c:Expr}{ta tb tc:TE}{pos:Pos}
theorem binT (ha:PE X a ta)(hb:PE X b tb){pins:List (Addr×Obj)}{s:Shared}{σ:St}{H:Hp}{R:V→V→Hp→Prop}(I:Inv X pins σ H s)
  (h:ta σ H fun x H1=>tb σ H1 fun y H2=>R x y H2){Q:Value→Shared→Prop}{f:Value→Value→Sem Value}
  (hf:∀ v u s2 x y H2,Inv X pins σ H2 s2→RelV x v→RelV y u→R x y H2→wpAny (model X.prog X.w) X.A (f v u) Q X.xe s2) :
  wpAny (model X.prog X.w) X.A (eval a X.env) (fun v s₁=>wpAny (model X.prog X.w) X.A (eval b X.env) (fun u s₂=>wpAny (model X.prog X.w) X.A (f v u) Q X.xe s₂) X.xe s₁) X.xe s:=by
 refine thn (ha pins s σ H _ I h) fun v s1 ⟨x,H1,I1,r1,q1⟩=>?_
 refine thn (hb pins s1 σ H1 _ I1 q1) fun u s2 ⟨y,H2,I2,r2,q2⟩=>?_
 exact hf v u s2 x y H2 I2 r1 r2 q2
theorem zK {op:Operator}{r:R2}(ho:OpR X (binaryOp op) r)(ha:PE X a ta)(hb:PE X b tb):PE X (.BinOp a op b pos) (tOp r ta tb):=by
 intro pins s σ H Q I h
 exact wpAny_BinOp (binT ha hb I h fun v u s2 x y H2 I2 rx ry q=>ho pins s2 σ H2 x y v u Q I2 rx ry q)
theorem pe_un {op:UnaryOp}{r:V→Hp→VK→Prop}(ho:UnR X (unaryOp op) r)(ha:PE X a ta):PE X (.UnaryOp op a pos) (tUn r ta):=by
 intro pins s σ H Q I h
 exact UnaryOp_ (thn (ha pins s σ H _ I h) fun v s1 ⟨x,H1,I1,r1,q1⟩=>ho pins s1 σ H1 x v Q I1 r1 q1)
theorem opI {f:Value→Value→Sem Value}{C:Int→Int→Prop}{g:Int→Int→Int}
  (rule:∀ (i j:Int)(t u:Tok)(s:Shared)(Q:Value→Shared→Prop)(E:Value→Shared→Prop),C i j→Q (.int (g i j) s.toks) { s with toks:=s.toks+1 }→wpAny (model X.prog X.w) X.A (f (.int i t) (.int j u)) Q E s) :
  OpR X f (rI C fun i j=>.int (g i j)):=by
 intro pins s σ H x y v u Q I rx ry h
 obtain⟨i,j,rfl,rfl,hc,q⟩:=h
 obtain⟨t,rfl⟩:=rx
 obtain⟨t',rfl⟩:=ry
 exact rule i j t t' s _ _ hc ⟨.int (g i j),H,I.tok _,⟨_,rfl⟩,q⟩
theorem opI0 {f:Value→Value→Sem Value}{g:Int→Int→Int}
  (rule:∀ (i j:Int)(t u:Tok)(s:Shared)(Q:Value→Shared→Prop)(E:Value→Shared→Prop),Q (.int (g i j) s.toks) { s with toks:=s.toks+1 }→wpAny (model X.prog X.w) X.A (f (.int i t) (.int j u)) Q E s) :
  OpR X f (rI0 fun i j=>.int (g i j)):=by
 intro pins s σ H x y v u Q I rx ry h
 obtain⟨i,j,rfl,rfl,q⟩:=h
 obtain⟨t,rfl⟩:=rx
 obtain⟨t',rfl⟩:=ry
 exact rule i j t t' s _ _ ⟨.int (g i j),H,I.tok _,⟨_,rfl⟩,q⟩
theorem opB0 {f:Value→Value→Sem Value}{g:Int→Int→Bool}
  (rule:∀ (i j:Int)(t u:Tok)(s:Shared)(Q:Value→Shared→Prop)(E:Value→Shared→Prop),Q (.bool (g i j)) s→wpAny (model X.prog X.w) X.A (f (.int i t) (.int j u)) Q E s) :
  OpR X f (rI0 fun i j=>.bl (g i j)):=by
 intro pins s σ H x y v u Q I rx ry h
 obtain⟨i,j,rfl,rfl,q⟩:=h
 obtain⟨t,rfl⟩:=rx
 obtain⟨t',rfl⟩:=ry
 exact rule i j t t' s _ _ ⟨.bl (g i j),H,I,rfl,q⟩
def CPow (i j:Int):Prop:=0≤j∧j≤1000000∧i.natAbs < 2^64
def CMul (i j:Int):Prop:=(-(2^64) < i∧i < 2^64)∨(-(2^64) < j∧j < 2^64)
theorem CMul.ok {i j:Int}(h:CMul i j):IntMulOk i j:=by
 rcases h with ⟨h1,h2⟩ | ⟨h1,h2⟩
 ·exact .of_left (intBits_le_64 h1 h2)
 ·exact .of_right (intBits_le_64 h1 h2)
theorem two_pow_nn (k:Nat):(0:Int)≤2^k:=by
 rw[two_pow_cast]
 exact Int.natCast_nonneg _
theorem vU:OpR X (binaryOp .Add) (rI0 fun i j=>.int (i+j)):=opI0 fun _ _ _ _ _ _ _ q=>add_int q
theorem jD:OpR X (binaryOp .Sub) (rI0 fun i j=>.int (i-j)):=opI0 fun _ _ _ _ _ _ _ q=>sub_int q
theorem vR:OpR X (binaryOp .Mod) (rI (fun _ j=>0 < j) fun i j=>.int (i%j)):=opI fun i j _ _ _ _ _ hc q=>by
 have h1:(0:Int) < j:=hc
 exact mod_int' (by omega) (by rw[Int.fmod_eq_emod_of_nonneg i (by omega)];exact q)
theorem zGp:OpR X (binaryOp .Pow) (rI CPow fun i j=>.int (i^j.toNat)):=opI fun _ _ _ _ _ _ _ hc q=>pow_int_small hc.1 hc.2.1 hc.2.2 q
theorem op_shr:OpR X (binaryOp .RShift) (rI (fun _ j=>0≤j) fun i j=>.int (i/2^j.toNat)):=opI fun i j _ _ _ _ _ hc q =>
 rshift_int hc (by rw[Int.fdiv_eq_ediv_of_nonneg i (two_pow_nn _)];exact q)
theorem unI {f:Value→Sem Value}{g:Int→Int}
  (rule:∀ (i:Int)(t:Tok)(s:Shared)(Q:Value→Shared→Prop)(E:Value→Shared→Prop),Q (.int (g i) s.toks) { s with toks:=s.toks+1 }→wpAny (model X.prog X.w) X.A (f (.int i t)) Q E s) :
  UnR X f (rU fun i=>.int (g i)):=by
 intro pins s σ H x v Q I rx h
 obtain⟨i,rfl,q⟩:=h
 obtain⟨t,rfl⟩:=rx
 exact rule i t s _ _ ⟨.int (g i),H,I.tok _,⟨_,rfl⟩,q⟩
theorem zDd:UnR X (unaryOp .USub) (rU fun i=>.int (-i)):=unI fun _ _ _ _ _ q=>neg_int q
end
def scal:V→V→Bool
 | .non,.non=>true | .non,.int _=>true | .int _,.non=>true | .non,.bl _=>true | .bl _,.non=>true | .non,.str _=>true | .str _,.non=>true
 | .int _,.int _=>true | .bl _,.bl _=>true | .str _,.str _=>true | .byt _,.byt _=>true
 | .int _,.str _=>true | .str _,.int _=>true | .bl _,.str _=>true | .str _,.bl _=>true
 | _,_=>false
def rEq:R2:=fun x y H Q=>scal x y=true∧Q (.bl (decide (x=y))) H
def rNe:R2:=fun x y H Q=>scal x y=true∧Q (.bl (!decide (x=y))) H
theorem dec_int {i j:Int}:decide (V.int i=V.int j)=(i == j):=by
 rw[Bool.eq_iff_iff]
 simp
theorem dec_bl {i j:Bool}:decide (V.bl i=V.bl j)=(i == j):=by
 rw[Bool.eq_iff_iff]
 simp
theorem dec_str {i j:Str}:decide (V.str i=V.str j)=(i == j):=by
 rw[Bool.eq_iff_iff]
 simp
theorem dec_byt {i j:Array UInt8}:decide (V.byt i=V.byt j)=(i.toList == j.toList):=by
 rw[Bool.eq_iff_iff]
 cases i
 cases j
 simp
section
variable {X:Cx}{a b c:Expr}{ta tb tc:TE}{pos:Pos}
theorem vW {pins:List (Addr×Obj)}{σ:St}{H:Hp}{s:Shared}{Q:VK}{k k':Bool}(I:Inv X pins σ H s)(q:Q (.bl k) H)(e:k=k'):EP X pins σ Q (.bool k') s:=by
 subst e
 exact⟨.bl k,H,I,rfl,q⟩
theorem zCw:OpR X (compareOp .Eq) rEq:=by
 intro pins s σ H x y v u Q I rx ry h
 obtain⟨hs,q⟩:=h
 cases x with
 | non =>
  cases rx
  cases y with
  | non=>cases ry;exact PySem.EqNone.eq_none_none (vW I q (by simp))
  | bl j=>cases ry;exact PySem.EqNone.eq_none_bool (vW I q (by simp))
  | int j=>obtain⟨t',rfl⟩:=ry;exact PySem.EqNone.eq_none_int (vW I q (by simp))
  | str j=>obtain⟨t',rfl⟩:=ry;exact PySem.EqNone.eq_none_str (vW I q (by simp))
  | _=>exact absurd (show false=true from hs) Bool.false_ne_true
 | bl i =>
  cases rx
  cases y with
  | non=>cases ry;exact PySem.EqNone.eq_bool_none (vW I q (by simp))
  | bl j=>cases ry;exact eq_bool (vW I q dec_bl)
  | str j=>obtain⟨t',rfl⟩:=ry;exact PySem.EqMixed.eq_bool_str (vW I q (by simp))
  | _=>exact absurd (show false=true from hs) Bool.false_ne_true
 | int i =>
  obtain⟨t,rfl⟩:=rx
  cases y with
  | non=>cases ry;exact PySem.EqNone.eq_int_none (vW I q (by simp))
  | int j=>obtain⟨t',rfl⟩:=ry;exact eq_int (vW I q dec_int)
  | str j=>obtain⟨t',rfl⟩:=ry;exact PySem.EqMixed.eq_int_str (vW I q (by simp))
  | _=>exact absurd (show false=true from hs) Bool.false_ne_true
 | str i =>
  obtain⟨t,rfl⟩:=rx
  cases y with
  | non=>cases ry;exact PySem.EqNone.eq_str_none (vW I q (by simp))
  | bl j=>cases ry;exact PySem.EqMixed.eq_str_bool (vW I q (by simp))
  | int j=>obtain⟨t',rfl⟩:=ry;exact PySem.EqMixed.eq_str_int (vW I q (by simp))
  | str j=>obtain⟨t',rfl⟩:=ry;exact eq_str (vW I q dec_str)
  | _=>exact absurd (show false=true from hs) Bool.false_ne_true
 | byt i =>
  obtain⟨t,rfl⟩:=rx
  cases y with
  | byt j=>obtain⟨t',rfl⟩:=ry;exact PySem.W.eq_bytes (vW I q dec_byt)
  | _=>exact absurd (show false=true from hs) Bool.false_ne_true
 | _=>cases y <;> exact absurd (show false=true from hs) Bool.false_ne_true
theorem zGc:OpR X (compareOp .NotEq) rNe:=by
 intro pins s σ H x y v u Q I rx ry h
 obtain⟨hs,q⟩:=h
 cases x with
 | non =>
  cases rx
  cases y with
  | non=>cases ry;exact PySem.EqNone.ne_none_none (vW I q (by simp))
  | bl j=>cases ry;exact PySem.EqNone.ne_none_bool (vW I q (by simp))
  | int j=>obtain⟨t',rfl⟩:=ry;exact PySem.EqNone.ne_none_int (vW I q (by simp))
  | str j=>obtain⟨t',rfl⟩:=ry;exact PySem.EqNone.ne_none_str (vW I q (by simp))
  | _=>exact absurd (show false=true from hs) Bool.false_ne_true
 | bl i =>
  cases rx
  cases y with
  | non=>cases ry;exact PySem.EqNone.ne_bool_none (vW I q (by simp))
  | bl j=>cases ry;exact ne_bool (vW I q (congrArg not dec_bl))
  | str j=>obtain⟨t',rfl⟩:=ry;exact PySem.EqMixed.ne_bool_str (vW I q (by simp))
  | _=>exact absurd (show false=true from hs) Bool.false_ne_true
 | int i =>
  obtain⟨t,rfl⟩:=rx
  cases y with
  | non=>cases ry;exact PySem.EqNone.ne_int_none (vW I q (by simp))
  | int j=>obtain⟨t',rfl⟩:=ry;exact ne_int (vW I q (congrArg not dec_int))
  | str j=>obtain⟨t',rfl⟩:=ry;exact PySem.EqMixed.ne_int_str (vW I q (by simp))
  | _=>exact absurd (show false=true from hs) Bool.false_ne_true
 | str i =>
  obtain⟨t,rfl⟩:=rx
  cases y with
  | non=>cases ry;exact PySem.EqNone.ne_str_none (vW I q (by simp))
  | bl j=>cases ry;exact PySem.EqMixed.ne_str_bool (vW I q (by simp))
  | int j=>obtain⟨t',rfl⟩:=ry;exact PySem.EqMixed.ne_str_int (vW I q (by simp))
  | str j=>obtain⟨t',rfl⟩:=ry;exact ne_str (vW I q (congrArg not dec_str))
  | _=>exact absurd (show false=true from hs) Bool.false_ne_true
 | byt i =>
  obtain⟨t,rfl⟩:=rx
  cases y with
  | byt j=>obtain⟨t',rfl⟩:=ry;exact PySem.W.ne_bytes (vW I q (congrArg not dec_byt))
  | _=>exact absurd (show false=true from hs) Bool.false_ne_true
 | _=>cases y <;> exact absurd (show false=true from hs) Bool.false_ne_true
theorem op_lt:OpR X (compareOp .Lt) (rI0 fun i j=>.bl (decide (i < j))):=opB0 fun _ _ _ _ _ _ _ q=>lt_int q
theorem op_le:OpR X (compareOp .LtE) (rI0 fun i j=>.bl (decide (i≤j))):=opB0 fun _ _ _ _ _ _ _ q=>le_int q
theorem op_gt:OpR X (compareOp .Gt) (rI0 fun i j=>.bl (decide (j < i))):=opB0 fun _ _ _ _ _ _ _ q=>gt_int q
theorem op_isN:OpR X (compareOp .Is) (fun x y H Q=>y=.non∧Q (.bl (decide (x=.non))) H):=by
 intro pins s σ H x y v u Q I rx ry h
 obtain⟨rfl,q⟩:=h
 cases ry
 refine is_none_gen (vW I q ?_)
 cases x <;> first
  | (cases rx;rfl)
  | (obtain⟨t,rfl⟩:=rx;rfl)
theorem op_notN:OpR X (compareOp .IsNot) (fun x y H Q=>y=.non∧Q (.bl (!decide (x=.non))) H):=by
 intro pins s σ H x y v u Q I rx ry h
 obtain⟨rfl,q⟩:=h
 cases ry
 refine isnot_none_gen (vW I q ?_)
 cases x <;> first
  | (cases rx;rfl)
  | (obtain⟨t,rfl⟩:=rx;rfl)
theorem vM (b:Expr){op:CmpOp}(h:op≠.In:=by decide)(h2:op≠.NotIn:=by decide):behindInMarks op b=false:=by
 have e1:(op == CmpOp.In)=false:=by cases op <;> first | rfl | exact absurd rfl h
 have e2:(op == CmpOp.NotIn)=false:=by cases op <;> first | rfl | exact absurd rfl h2
 cases b <;> simp [behindInMarks,e1,e2]
theorem zDc {op:CmpOp}{r:R2}(ho:OpR X (compareOp op) r)(ha:PE X a ta)(hb:PE X b tb)(hm:behindInMarks op b=false):PE X (.Compare a [op] [b] pos) (tOp r ta tb):=by
 intro pins s σ H Q I h
 exact wpAny_Compare1 (binT ha hb I h fun v u s2 x y H2 I2 rx ry q=>ho pins s2 σ H2 x y v u Q I2 rx ry q) hm
def tTest (t:TE):TT:=fun σ H Q=>t σ H fun x H'=>∃ k,x=.bl k∧Q k H'
theorem vF {op:CmpOp}{r:R2}(ho:OpR X (compareOp op) r)(ha:PE X a ta)(hb:PE X b tb)(hm:behindInMarks op b=false):PT X (.Compare a [op] [b] pos) (tTest (tOp r ta tb)):=by
 intro pins s σ H Q I h
 refine wpAny_isTrue_Compare1 (thn (ha pins s σ H _ I h) fun v s1 ⟨x,H1,I1,r1,q1⟩=>thn (hb pins s1 σ H1 _ I1 q1) fun u s2 ⟨y,H2,I2,r2,q2⟩ =>
  thn (ho pins s2 σ H2 x y v u _ I2 r1 r2 q2) fun c s3 ⟨z,H3,I3,r3,k,e,q3⟩=>?_) hm
 subst e
 cases r3
 exact wpAny_truthy_bool ⟨H3,I3,q3⟩
theorem line63:(sizeLine:Nat) < 2^63:=by rw[sizeLine_eq];decide
theorem vals1 {x:V}{us:List Value}(r:Vals [x] us):∃ u,us=[u]∧RelV x u:=by
 cases r with
 | cons r1 r2=>cases r2;exact⟨_,rfl,r1⟩
theorem vals2 {x y:V}{us:List Value}(r:Vals [x,y] us):∃ u w',us=[u,w']∧RelV x u∧RelV y w':=by
 cases r with
 | cons r1 r2 =>
  cases r2 with
  | cons r3 r4=>cases r4;exact⟨_,_,rfl,r1,r3⟩
theorem zAf:zEb X (.builtin "abs") (fun xs H Q=>∃ i,xs=[.int i]∧Q (.int (if i < 0 then -i else i)) H):=by
 intro pins s σ H xs us Q I r h
 obtain⟨i,rfl,q⟩:=h
 obtain⟨u,rfl,t,rfl⟩:=vals1 r
 exact call_abs_int fun u tk=>⟨.int (if i < 0 then -i else i),H,I.tok _,⟨_,rfl⟩,q⟩
theorem zFm (hc:X.calm=true):zEb X (.builtin "max") (fun xs H Q=>∃ i j,xs=[.int i,.int j]∧Q (.int (if j > i then j else i)) H):=by
 intro pins s σ H xs us Q I r h
 obtain⟨i,j,rfl,q⟩:=h
 obtain⟨u,w',rfl,⟨t,rfl⟩,⟨t',rfl⟩⟩:=vals2 r
 refine max_two_ints (I.ok.hd hc) fun h' tk k=>⟨_,H,I.kept k,?_,q⟩
 by_cases hj:j > i
 ·rw[if_pos hj,if_pos hj];exact⟨_,rfl⟩
 ·rw[if_neg hj,if_neg hj];exact⟨_,rfl⟩
theorem call_min2 (hc:X.calm=true):zEb X (.builtin "min") (fun xs H Q=>∃ i j,xs=[.int i,.int j]∧Q (.int (if j < i then j else i)) H):=by
 intro pins s σ H xs us Q I r h
 obtain⟨i,j,rfl,q⟩:=h
 obtain⟨u,w',rfl,⟨t,rfl⟩,⟨t',rfl⟩⟩:=vals2 r
 refine min_two_ints (I.ok.hd hc) fun h' tk k=>⟨_,H,I.kept k,?_,q⟩
 by_cases hj:j < i
 ·rw[if_pos hj,if_pos hj];exact⟨_,rfl⟩
 ·rw[if_neg hj,if_neg hj];exact⟨_,rfl⟩
end
end L2
namespace L2
open PySem PySem.Spec PyProof.Rows
structure ObjM (h:Heap)(x dx C:Addr)(mA:Str→Option Value):Prop where
 obj:h.get? x=some (PySem.W.instObj C dx)
 ns:h.Ns1 dx mA
 ne:dx≠x
theorem lookIn_ns {h:Heap}{dx:Addr}{mA:Str→Option Value}(n:h.Ns1 dx mA):∃ od,h.get? dx=some od∧∀ name,PySem.W.lookIn name od=some (mA name):=by
 obtain⟨o,es,ep,ho,hd,hk,_,hm⟩:=n
 refine⟨o,ho,fun name=>?_⟩
 have e:=hm name
 unfold nsFind findBy at e
 rw[← Array.find?_toList] at e
 unfold PySem.W.lookIn
 rw[hd]
 dsimp only
 split
 ·rename_i y q
  rw[q] at e
  exact congrArg some e
 ·rename_i q
  rw[q] at e
  have a:es.toList.any (·.refKey)=false:=by
   rw[List.any_eq_false]
   intro y hy
   obtain⟨z,t,hkey⟩:=hk y (Array.mem_toList_iff.mp hy)
   simp [DictEntry.refKey,hkey]
  have a':¬ es.toList.any (·.refKey)=true:=by rw[a];exact Bool.false_ne_true
  rw[if_neg a']
  exact congrArg some e
theorem ObjM.look {h:Heap}{x dx C:Addr}{mA:Str→Option Value}(I:ObjM h x dx C mA):∃ od,PySem.W.InstAt h x (PySem.W.instObj C dx) C (some od)∧∀ name,PySem.W.lookIn name od=some (mA name) :=
 let ⟨od,ho,hl⟩:=lookIn_ns I.ns
 ⟨od,⟨I.obj,rfl,rfl,ho⟩,hl⟩
section
variable {prog:Program}{w:World}{A:Around}{E:Value→Shared→Prop}{s:Shared}{K:PySem.W.Frag}{x dx C f:Addr}{mA:Str→Option Value}{name:Str}{v:Value}
theorem get_map {expr:Bool}{Q:Value→Shared→Prop}(X:K.In s.heap)(I:ObjM s.heap x dx C mA)(hg:PySem.W.plainGet K C name=true)(hh:PySem.W.hasDictIn K C=true)
  (ha:PySem.W.findIn K (.ref C) name=some none)(hv:mA name=some v)(hv':PySem.W.handedIn v=true)(h:Q v { s with toks:=s.toks+1 }) :
  wpAny (model prog w) A (getAttr (.ref x) name expr) Q E s:=by
 obtain⟨od,J,hl⟩:=I.look
 exact PySem.W.get_value X J (PySem.W.plainGet_of hg).1 (PySem.W.findObj_own hh ha rfl (by rw[hl,hv])) hv' h
theorem get_meth {pl:Sem Bool}{Q:Value×List Value→Shared→Prop}(X:K.In s.heap)(I:ObjM s.heap x dx C mA)(hg:PySem.W.plainGet K C name=true)
  (hf:PySem.W.findIn K (.ref C) name=some (some (.ref f)))(ht:PySem.W.isFn K (.ref f)=true)(hv:mA name=none)(h:Q (.ref f,[.ref x]) s) :
  wpAny (model prog w) A (getMethod (.ref x) name pl) Q E s:=by
 obtain⟨od,J,hl⟩:=I.look
 exact PySem.W.method_fn X J (PySem.W.plainGet_of hg).1 (PySem.W.plainGet_of hg).2 hf (beq_iff_eq.mp ht) (by show (PySem.W.lookIn name od).map (·.isSome)=some false;rw[hl,hv];rfl) h
theorem set_map {ns:List Str}{Q:Unit→Shared→Prop}(X:K.In s.heap)(I:ObjM s.heap x dx C mA)
  (hs:PySem.W.findIn K (.ref C) "__setattr__"=some (some (.builtin "object.__setattr__")))(hp:PySem.W.plainOver K C=true)(ht:PySem.W.takerIn K C name=some none)(hh:PySem.W.hasDictIn K C=true)
  (hw:PySem.Within mA ns)(hsz:ns.length≤sizeLine)
  (h:∀ h',ObjM h' x dx C (fun y=>if y=name then some v else mA y)→Heap.SameBut dx s.heap h'→Q () { s with heap:=h',toks:=s.toks+2 }) :
  wpAny (model prog w) A (setAttr (.ref x) name v) Q E s:=by
 obtain⟨od,J,hl⟩:=I.look
 refine PySem.W.set_plain X J hs (PySem.W.osa_open (s:={ s with toks:=s.toks+1 }) (r:=none) X J hp ht fun b=>?_)
 obtain⟨cd,hc,hd'⟩:=PySem.W.any_some hh
 have hx:s.heap.get? x=some ⟨.ref C,some dx,.plain,#[]⟩:=I.obj
 refine wpAny_bind (wpAny_pure (wpAny_bind (wpAny_bind (wpAny_loadPart hx (wpAny_bind (PySem.W.Looks.here (s:={ s with toks:=s.toks+1 }) (PySem.W.looks_clsIn X hc) ?_))))))
 rw[hd']
 refine wpAny_pure (a:=some dx) (wpAny_bind (wpAny_pure (wpAny_bind ?_)))
 refine wpAny_nsSet1 (s:={ s with toks:=s.toks+1 }) I.ns fun h' hn2 hs2=>?_
 obtain⟨oD,esD,epD,hoD,hdD,hcD⟩:=hn2.count (PySem.Within.cons name v hw)
 refine wpAny_bind (wpAny_lookBehind hoD (by rw[hdD];exact pastItsLine_dict (Nat.le_trans hcD (by rw[List.length_cons];omega))) ?_)
 exact wpAny_pure (h _ ⟨(hs2.2 _ (Ne.symm I.ne)).trans I.obj,hn2,I.ne⟩ hs2)
theorem make_map {R:Result→Shared→Prop}{vs:List Value}{kw:List (Str×Value)}(X:K.In s.heap)(hm:PySem.W.makesIn K C=true)
  (hi:PySem.W.findIn K (.ref C) "__init__"=some (some (.ref f)))(hf:PySem.W.typeIn K (.ref f)=some (.type "function"))
  (h:codeAny (model prog w) (A.under (.builtin "type.__call__" ⟨.ref C::vs,kw⟩)) (.call (.ref f) ⟨.ref (s.heap.objs.size+1)::vs,kw⟩) (PySem.W.InitBack (s.heap.objs.size+1) R)
   { s with heap:=(s.heap.push PySem.W.emptyDict).push (PySem.W.instObj C s.heap.objs.size) }) :
  codeAny (model prog w) A (.call (.ref C) ⟨vs,kw⟩) R s:=by
 obtain⟨hh,g,d,t,os⟩:=s
 exact PySem.W.make_core (PySem.W.makes_of X hm) (PySem.W.looks_findIn X hi) (fun self=>PySem.W.bind_fn X self hf) (.inl rfl) h
end
def zBg (f:Str)(v:V):List (Str×V)→List (Str×V)
 | []=>[(f,v)]
 | (g,x)::r=>if g=f then (g,v)::r else (g,x)::zBg f v r
theorem zF (f g:Str)(v:V):∀ fs:List (Str×V),(zBg f v fs).lookup g=if g=f then some v else fs.lookup g
 | []=>by
  show List.lookup g [(f,v)]=_
  by_cases h:g=f
  ·have hb:(g == f)=true:=beq_iff_eq.mpr h
   simp only [List.lookup,hb,if_pos h]
  ·have hb:(g == f)=false:=beq_eq_false_iff_ne.mpr h
   simp only [List.lookup,hb,if_neg h]
 | (k,x)::r=>by
  have ih:=zF f g v r
  rw[show zBg f v ((k,x)::r)=(if k=f then (k,v)::r else (k,x)::zBg f v r) from rfl]
  by_cases hk:k=f
  ·rw[if_pos hk]
   by_cases h:g=k
   ·have hb:(g == k)=true:=beq_iff_eq.mpr h
    simp only [List.lookup,hb,if_pos (h.trans hk)]
   ·have hb:(g == k)=false:=beq_eq_false_iff_ne.mpr h
    simp only [List.lookup,hb,if_neg (fun e:g=f=>h (e.trans hk.symm))]
  ·rw[if_neg hk]
   by_cases h:g=k
   ·have hb:(g == k)=true:=beq_iff_eq.mpr h
    simp only [List.lookup,hb,if_neg (fun e:g=f=>hk (h.symm.trans e))]
   ·have hb:(g == k)=false:=beq_eq_false_iff_ne.mpr h
    simp only [List.lookup,hb]
    exact ih
theorem zFo (f:Str)(v:V):∀ fs:List (Str×V),f∈(zBg f v fs).map (·.1)∧∀ g,g∈fs.map (·.1)→g∈(zBg f v fs).map (·.1)
 | []=>⟨by simp [zBg],fun g h=>by simp at h⟩
 | (k,x)::r=>by
  obtain⟨i1,i2⟩:=zFo f v r
  rw[show zBg f v ((k,x)::r)=(if k=f then (k,v)::r else (k,x)::zBg f v r) from rfl]
  by_cases hk:k=f
  ·rw[if_pos hk]
   subst hk
   exact⟨by simp,fun g h=>by simpa using h⟩
  ·rw[if_neg hk]
   refine⟨?_,fun g h=>?_⟩
   ·rw[List.map_cons]
    exact List.mem_cons_of_mem _ i1
   ·rw[List.map_cons] at h ⊢
    rcases List.mem_cons.mp h with e | e
    ·exact List.mem_cons.mpr (.inl e)
    ·exact List.mem_cons_of_mem _ (i2 g e)
theorem zEm (f:Str)(v:V):∀ fs:List (Str×V),(zBg f v fs).length≤fs.length+1
 | []=>by simp [zBg]
 | (k,x)::r=>by
  have ih:=zEm f v r
  rw[show zBg f v ((k,x)::r)=(if k=f then (k,v)::r else (k,x)::zBg f v r) from rfl]
  by_cases hk:k=f
  ·rw[if_pos hk,List.length_cons,List.length_cons];omega
  ·rw[if_neg hk,List.length_cons,List.length_cons];omega
theorem RelO.some_of {v:V}{o:Option Value}(r:RelO (some v) o):∃ u,o=some u∧RelV v u:=by
 cases o with
 | none=>exact (show False from r).elim
 | some u=>exact⟨u,rfl,r⟩
theorem RelO.none_of {o:Option Value}(r:RelO none o):o=none:=by
 cases o with
 | none=>rfl
 | some u=>exact (show False from r).elim
theorem handed_of {v:V}{u:Value}(r:RelV v u):PySem.W.handedIn u=true:=by
 cases v with
 | non=>cases (show u=Value.none from r);rfl
 | bl b=>cases (show u=Value.bool b from r);rfl
 | int i=>obtain⟨t,e⟩:=(show ∃ t,u=Value.int i t from r);cases e;rfl
 | str x=>obtain⟨t,e⟩:=(show ∃ t,u=Value.str x t from r);cases e;rfl
 | byt b=>obtain⟨t,e⟩:=(show ∃ t,u=Value.bytes b t from r);cases e;rfl
 | flt b=>obtain⟨t,e⟩:=(show ∃ t,u=Value.float b t from r);cases e;rfl
 | ref a=>cases (show u=Value.ref a from r);rfl
 | ty n=>cases (show u=Value.type n from r);rfl
section
variable {P:Program}{w:World}{H H':Hp}{h h':Heap}{a C dx:Addr}{fs fs':List (Str×V)}
theorem ins_get (hok:HOk P w H h)(e:H a=some (.ins C dx fs)):∃ mA,ObjM h a dx C mA∧(∀ f,RelO (fs.lookup f) (mA f))∧PySem.Within mA (fs.map (·.1))∧fs.length≤1000∧H dx=some (.own a):=by
 obtain⟨d,z,ne,ob,mA,n,r,q⟩:=(show zAb P w H h a (.ins C dx fs) from hok a _ e)
 exact⟨mA,⟨ob,n,ne⟩,r,q,z,d⟩
end
structure Cls (K:PySem.W.Frag)(C:Addr):Prop where
 pg:PySem.W.plainGet K C Str.empty=true
 hd:PySem.W.hasDictIn K C=true
 po:PySem.W.plainOver K C=true
 sa:PySem.W.findIn K (.ref C) "__setattr__"=some (some (.builtin "object.__setattr__"))
theorem Cls.get {K:PySem.W.Frag}{C:Addr}(c:Cls K C)(f:Str):PySem.W.plainGet K C f=true:=c.pg
def jL (K:PySem.W.Frag)(C:Addr)(f:Str):Prop:=PySem.W.findIn K (.ref C) f=some none
theorem jL.taker {K:PySem.W.Frag}{C:Addr}{f:Str}(n:jL K C f):PySem.W.takerIn K C f=some none:=by
 unfold PySem.W.takerIn
 rw[show PySem.W.findIn K (.ref C) f=some none from n]
 rfl
structure Meth (K:PySem.W.Frag)(C:Addr)(m:Str)(f:Addr):Prop where
 at_:PySem.W.findIn K (.ref C) m=some (some (.ref f))
 fn:PySem.W.isFn K (.ref f)=true
 kp:PySem.W.keepIn K (.ref f)=true
section
variable {X:Cx}{pins:List (Addr×Obj)}{σ:St}{H:Hp}{s:Shared}{a C dx:Addr}{fs:List (Str×V)}{f:Str}{v:V}{A:Around}{E:Value→Shared→Prop}
theorem getattr_ok {b:Bool}{Q:Value→Shared→Prop}(I:Inv X pins σ H s)(e:H a=some (.ins C dx fs))(c:Cls X.K C)(n:jL X.K C f)(l:fs.lookup f=some v)
  (h:∀ u s',Inv X pins σ H s'→RelV v u→Q u s'):wpAny (model X.prog X.w) A (getAttr (.ref a) f b) Q E s:=by
 obtain⟨mA,O,r,_,_,_⟩:=ins_get I.hok e
 obtain⟨u,hu,ru⟩:=RelO.some_of (v:=v) (o:=mA f) (by rw[← l];exact r f)
 exact get_map I.kIn O (c.get f) c.hd n hu (handed_of ru) (h u _ (I.tok _) ru)
theorem getmeth_ok {m:Str}{g:Addr}{pl:Sem Bool}{Q:Value×List Value→Shared→Prop}(I:Inv X pins σ H s)(e:H a=some (.ins C dx fs))(c:Cls X.K C)(k:Meth X.K C m g)(l:fs.lookup m=none)
  (h:Q (.ref g,[.ref a]) s):wpAny (model X.prog X.w) A (getMethod (.ref a) m pl) Q E s:=by
 obtain⟨mA,O,r,_,_,_⟩:=ins_get I.hok e
 have hn:mA m=none:=RelO.none_of (by rw[← l];exact r m)
 exact get_meth I.kIn O (c.get m) k.at_ k.fn hn h
theorem setattr_ok {y:V}{u:Value}{Q:Unit→Shared→Prop}(I:Inv X pins σ H s)(e:H a=some (.ins C dx fs))(c:Cls X.K C)(n:jL X.K C f)(hl:fs.length < 1000)(ry:RelV y u)
  (h:∀ s',Inv X pins σ (upd H a (.ins C dx (zBg f y fs))) s'→Q () s'):wpAny (model X.prog X.w) A (setAttr (.ref a) f u) Q E s:=by
 obtain⟨mA,O,r,wi,_,ho⟩:=ins_get I.hok e
 have hz:(fs.map (·.1)).length≤sizeLine:=by rw[List.length_map,sizeLine_eq];omega
 refine set_map I.kIn O c.sa c.po n.taker c.hd wi hz fun h' O' sb=>h _ ?_
 have hd:∃ o,h'.get? dx=some o:=let ⟨o,_,_,e',_⟩:=O'.ns;⟨o,e'⟩
 refine I.write (x:=a) (e:=dx) (by rw[e];exact True.intro) (.inr ho) (fun b q hb z=>(sb.2 b hb).trans z) hd ?_
 refine⟨by rw[vA O.ne];exact ho,?_,O.ne,O'.obj,_,O'.ns,fun g=>?_,fun g hg=>?_⟩
 ·have:=zEm f y fs;omega
 ·show RelO ((zBg f y fs).lookup g) (if g=f then some u else mA g)
  rw[zF]
  by_cases q:g=f
  ·rw[if_pos q,if_pos q];exact ry
  ·rw[if_neg q,if_neg q];exact r g
 ·by_cases q:g=f
  ·rw[q];exact (zFo f y fs).1
  ·refine (zFo f y fs).2 g (wi g fun z=>hg ?_)
   show (if g=f then some u else mA g)=none
   rw[if_neg q];exact z
theorem Inv.made (I:Inv X pins σ H s):Inv X pins σ (upd (upd H s.heap.objs.size (.own (s.heap.objs.size+1))) (s.heap.objs.size+1) (.ins C s.heap.objs.size []))
  { s with heap:=(s.heap.push PySem.W.emptyDict).push (PySem.W.instObj C s.heap.objs.size) }:=by
 have e1:(s.heap.push PySem.W.emptyDict).get? s.heap.objs.size=some PySem.W.emptyDict:=Heap.get?_push_size s.heap rfl
 have e2:((s.heap.push PySem.W.emptyDict).push (PySem.W.instObj C s.heap.objs.size)).get? (s.heap.objs.size+1)=some (PySem.W.instObj C s.heap.objs.size):=by
  have:=Heap.get?_push_size (s.heap.push PySem.W.emptyDict) (o:=PySem.W.instObj C s.heap.objs.size) rfl
  rwa [Heap.size_push] at this
 have e3:(s.heap.push PySem.W.emptyDict).Ns s.heap.objs.size (fun _=>none):=⟨PySem.W.emptyDict,#[],_,e1,rfl,(fun e he=>absurd he (by simp)),fun _=>rfl⟩
 have I1:=I.laid (a:=s.heap.objs.size) (o:=.own (s.heap.objs.size+1)) (h':=s.heap.push PySem.W.emptyDict) (t':=s.toks) (fun b u q=>Heap.get?_push_of_some _ q) (Nat.le_refl _) ⟨_,e1⟩
 refine I1.laid (a:=s.heap.objs.size+1) (o:=.ins C s.heap.objs.size []) (t':=s.toks) (fun b u q=>Heap.get?_push_of_some _ q) (Nat.le_of_eq (Heap.size_push _ _)) ?_
 have ne:s.heap.objs.size≠s.heap.objs.size+1:=Nat.ne_of_lt (Nat.lt_succ_self _)
 refine⟨by rw[vA ne,zD],Nat.zero_le _,ne,e2,fun _=>none,(Heap.Ns1.of_empty e3).at fun o q=>Heap.get?_push_of_some _ q,fun _=>True.intro,fun y hy=>absurd rfl hy⟩
theorem attr_of {prog:Program}{w:World}{env:Env}{e:Expr}{f:Str}{pos:Pos}{s:Shared}{Q:Value→Shared→Prop}(hb:attributeBase e f env (eval e env)=eval e env)
  (h:wpAny (model prog w) A (eval e env) (fun o s₁=>wpAny (model prog w) A (getAttr o f true) Q E s₁) E s):wpAny (model prog w) A (eval (.Attribute e f pos) env) Q E s :=
 Attribute_any_ h (by rw[arm_eval_Attribute,hb])
end
def tFld (K:PySem.W.Frag)(ta:TE)(f:Str):TE:=fun σ H Q=>ta σ H fun x H1=>∃ a C dx fs v,x=.ref a∧H1 a=some (.ins C dx fs)∧Cls K C∧jL K C f∧fs.lookup f=some v∧Q v H1
def sFld (K:PySem.W.Frag)(ta tv:TE)(f:Str):TS:=fun D σ H=>tv σ H fun y H1=>ta σ H1 fun x H2=>∃ a C dx fs,x=.ref a∧H2 a=some (.ins C dx fs)∧Cls K C∧jL K C f∧fs.length < 1000 ∧
 D.nx σ (upd H2 a (.ins C dx (zBg f y fs)))
section
variable {X:Cx}{o e value:Expr}{f:Str}{pos pos' tpos:Pos}{ta tv:TE}
theorem wL (he:PE X e ta)(hb:attributeBase e f X.env (eval e X.env)=eval e X.env):PE X (.Attribute e f pos) (tFld X.K ta f):=by
 intro pins s σ H Q I h
 refine attr_of hb (thn (he pins s σ H _ I h) fun u s1 ⟨x,H1,I1,rx,a,C,dx,fs,v,ex,ea,c,n,l,q⟩=>?_)
 subst ex
 obtain rfl:u=Value.ref a:=rx
 exact getattr_ok I1 ea c n l fun u' s2 I2 ru=>⟨v,H1,I2,ru,q⟩
theorem zDq (ha:PE X o ta)(hv:PE X value tv)(hs:swapsWith value (some (.Attribute o f pos')) pos.line X.env=pure false):PS X (.Assign [.Attribute o f pos'] value pos) (sFld X.K ta tv f):=by
 intro pins s σ H D I h
 refine plainObj_wpAny_Assign_Attribute (thn (hv pins s σ H _ I h) fun u s1 ⟨y,H1,I1,ry,q⟩=>thn (ha pins s1 σ H1 _ I1 q) fun ov s2 ⟨x,H2,I2,rx,a,C,dx,fs,ex,ea,c,n,l,q2⟩=>?_) hs
 subst ex
 obtain rfl:ov=Value.ref a:=rx
 exact setattr_ok I2 ea c n l ry fun s3 I3=>⟨σ,_,I3,q2⟩
end
section
variable {X:Cx}{pins:List (Addr×Obj)}{σ:St}{H:Hp}{s:Shared}{A:Around}{E:Value→Shared→Prop}{Q:Value→Shared→Prop}{c:Value}{b:Bool}
inductive TyOf (K:PySem.W.Frag)(H:Hp):V→Value→Prop where
 | non:TyOf K H .non (.type "NoneType")
 | bl (x:Bool):TyOf K H (.bl x) (.type "bool")
 | int (i:Int):TyOf K H (.int i) (.type "int")
 | str (x:Str):TyOf K H (.str x) (.type "str")
 | flt (x:UInt64):TyOf K H (.flt x) (.type "float")
 | lst {a:Addr}{xs:List V}(e:H a=some (.lst xs)):TyOf K H (.ref a) (.type "list")
 | frz {a:Addr}{o:Obj}{xs:List V}(e:H a=some (.frz o (.lst xs))):TyOf K H (.ref a) (.type "list")
 | tup {a:Addr}{xs:List V}(e:H a=some (.tup xs)):TyOf K H (.ref a) (.type "tuple")
 | dK {a:Addr}{kvs:List (Key×V)}(e:H a=some (.dK kvs)):TyOf K H (.ref a) (.type "dict")
 | dT {a:Addr}{kvs:List (List Key×V)}(e:H a=some (.dT kvs)):TyOf K H (.ref a) (.type "dict")
 | ins {a C dx:Addr}{fs:List (Str×V)}(e:H a=some (.ins C dx fs))(cl:Cls K C)(ha:PySem.W.findIn K (.ref C) "__class__"=some (some (.builtin "object.__class__")))
   (hn:PySem.W.specialIn K (.builtin "object.__class__") "__get__"=some (some (.builtin "getset_descriptor.__get__")))(htk:PySem.W.takesIn K (.builtin "object.__class__")=some true)
   (hm:PySem.W.mroIn K C (.type "object")=some true):TyOf K H (.ref a) (.ref C)
theorem isinst_ok {x:V}{u t:Value}(I:Inv X pins σ H s)(rx:RelV x u)(ty:TyOf X.K H x t)(e:PySem.W.kitOne X.K t c=some b)(h:∀ tk,Q (.bool b) { s with toks:=tk }) :
  wpAny (model X.prog X.w) A (call (.builtin "isinstance") [u,c]) Q E s:=by
 cases ty with
 | non=>cases (show u=Value.none from rx);exact PySem.W.kia_one PySem.W.kitx_none I.kIn True.intro e (fun z=>nomatch z) h
 | bl y=>cases (show u=Value.bool y from rx);exact PySem.W.kia_one PySem.W.kitx_bool I.kIn True.intro e (fun z=>nomatch z) h
 | int i=>obtain⟨t,q⟩:=(show ∃ t,u=Value.int i t from rx);cases q;exact PySem.W.kia_one PySem.W.kitx_int I.kIn True.intro e (fun z=>nomatch z) h
 | str y=>obtain⟨t,q⟩:=(show ∃ t,u=Value.str y t from rx);cases q;exact PySem.W.kia_one PySem.W.kitx_str I.kIn True.intro e (fun z=>nomatch z) h
 | flt y=>obtain⟨t,q⟩:=(show ∃ t,u=Value.float y t from rx);cases q;exact PySem.W.kia_one PySem.W.kitx_float I.kIn True.intro e (fun z=>nomatch z) h
 | @lst a xs ea =>
  cases (show u=Value.ref a from rx)
  obtain⟨_,_,n,_,h1⟩:=(show zAb X.prog X.w H s.heap a (.lst xs) from I.hok a _ ea)
  exact PySem.W.kia_one PySem.W.kitx_list I.kIn ⟨_,h1,rfl⟩ e (fun z=>nomatch z) h
 | @frz a ob xs ea =>
  cases (show u=Value.ref a from rx)
  obtain⟨_,_,_,n,_,h1⟩:=(show zAb X.prog X.w H s.heap a (.frz ob (.lst xs)) from I.hok a _ ea)
  exact PySem.W.kia_one PySem.W.kitx_list I.kIn ⟨_,h1,rfl⟩ e (fun z=>nomatch z) h
 | @tup a xs ea =>
  cases (show u=Value.ref a from rx)
  obtain⟨_,_,_,p⟩:=(show zAb X.prog X.w H s.heap a (.tup xs) from I.hok a _ ea)
  obtain⟨o,h1,h2,_⟩:=p
  exact PySem.W.kia_one PySem.W.kitx_tuple I.kIn ⟨o,h1,h2⟩ e (fun z=>nomatch z) h
 | @dK a kvs ea =>
  cases (show u=Value.ref a from rx)
  obtain⟨_,_,vs,_,p⟩:=(show zAb X.prog X.w H s.heap a (.dK kvs) from I.hok a _ ea)
  obtain⟨o,es,ep,h1,h2,_⟩:=p
  exact PySem.W.kia_one PySem.W.kitx_dict I.kIn ⟨o,h1,h2.1⟩ e (fun z=>nomatch z) h
 | @dT a kvs ea =>
  cases (show u=Value.ref a from rx)
  obtain⟨_,_,xs,_,o,es,ep,h1,h2,_⟩:=(show zAb X.prog X.w H s.heap a (.dT kvs) from I.hok a _ ea)
  exact PySem.W.kia_one PySem.W.kitx_dict I.kIn ⟨o,h1,h2.1⟩ e (fun z=>nomatch z) h
 | @ins a C dx fs ea cl ha hn htk hm =>
  cases (show u=Value.ref a from rx)
  obtain⟨mA,O,_⟩:=ins_get I.hok ea
  obtain⟨od,J,_⟩:=O.look
  exact PySem.W.kia_one (PySem.W.kitx_own (cl.get _) cl.hd ha hn htk hm) I.kIn J e (fun z=>nomatch z) h
end
end L2
namespace L2
open PySem PySem.Spec PyProof.Rows
structure zCu (k:Nat)(A:Around):Prop where
 hd:A.handled=none
 dp:A.depth+3*k+5 < recursionLimit
 un:A.units+16*k+200 < cLine
theorem zCu.mono {j k:Nat}{A:Around}(r:zCu k A)(h:j≤k):zCu j A:=⟨r.hd,by have:=r.dp;omega,by have:=r.un;omega⟩
theorem zCu.deeper {k:Nat}{A:Around}(r:zCu (k+1) A)(env:Env):zCu k (A.deeper env) :=
 ⟨r.hd,by have:=r.dp;show A.depth+1+3*k+5 < _;omega,by have:=r.un;show A.units+3+16*k+200 < _;omega⟩
theorem make_depth {A:Around}{C:Addr}{us:List Value}{kw:List (Str×Value)}:(A.under (.builtin "type.__call__" ⟨.ref C::us,kw⟩)).depth=A.depth+1:=by
 first | rfl | simp [Around.under,Code.weight,Code.isCreation,Code.isGuard,Code.isCaller,Code.frames,Code.isFrame,guardIds]
theorem make_units {A:Around}{C:Addr}{us:List Value}{kw:List (Str×Value)}:(A.under (.builtin "type.__call__" ⟨.ref C::us,kw⟩)).units=A.units+1:=by
 first | rfl | simp [Around.under,Code.cUnits,Code.frames,Code.isFrame]
theorem zCu.make {k:Nat}{A:Around}(r:zCu (k+1) A)(C:Addr)(us:List Value)(kw:List (Str×Value)):zCu k (A.under (.builtin "type.__call__" ⟨.ref C::us,kw⟩)) :=
 ⟨r.hd,by have:=r.dp;rw[make_depth];omega,by have:=r.un;rw[make_units];omega⟩
theorem zCu.depth {k:Nat}{A:Around}(r:zCu k A):A.depth < recursionLimit:=by have:=r.dp;omega
def tNil:TA:=fun _ H Q=>Q [] H
def tCons (ta:TE)(tr:TA):TA:=fun σ H Q=>ta σ H fun x H1=>tr σ H1 fun xs H2=>Q (x::xs) H2
section
variable {X:Cx}{e:Expr}{es:List Expr}{te:TE}{t:TA}{pos:Pos}
theorem zC:PA X [] tNil:=fun _ _ _ _ H Q I h=>Calls.spliced_nil ⟨[],H,I,.nil,h⟩
theorem zA (ha:PE X e te)(hr:PA X es t)(hs:starEach (e::es) X.env=(false,eval e X.env)::starEach es X.env:=by rfl):PA X (e::es) (tCons te t):=by
 intro pos pins s σ H Q I h
 rw[hs]
 show wpAny _ _ (spliced ((false,eval e X.env)::backTo pos (starEach es X.env))) _ _ s
 refine Calls.spliced_cons (thn (ha pins s σ H _ I h) fun u s1 ⟨x,H1,I1,r1,q1⟩=>?_)
 exact thn (hr pos pins s1 σ H1 _ I1 q1) fun us s2 ⟨xs,H2,I2,r2,q2⟩=>⟨x::xs,H2,I2,.cons r1 r2,q2⟩
def tTup (t:TA):TE:=fun σ H Q=>t σ H fun xs H1=>xs.length≤sizeLine∧∀ p,H1 p=none→Q (.ref p) (upd H1 p (.tup xs))
def tLst (t:TA):TE:=fun σ H Q=>t σ H fun xs H1=>xs.length≤sizeLine∧∀ p,H1 p=none→Q (.ref p) (upd H1 p (.lst xs))
theorem wE {x1}(h:PA X es t):PE X (.Tuple es x1 pos) (tTup t):=by
 intro pins s σ H Q I hq
 refine wpAny_Tuple_spliced (thn (h pos pins s σ H _ I hq) fun us s1 ⟨xs,H1,I1,r,z,q⟩=>⟨by rw[← r.length];exact z,?_⟩)
 have hf:H1 s1.heap.objs.size=none:=I1.hok.fresh (Nat.le_refl _)
 refine⟨.ref s1.heap.objs.size,upd H1 s1.heap.objs.size (.tup xs),I1.laid (t':=s1.toks) (fun b u e=>Heap.get?_push_of_some _ e) (Nat.le_refl _) ?_,rfl,q _ hf⟩
 exact⟨z,us,r,⟨_,Heap.get?_push_size _ rfl,rfl,_,rfl⟩⟩
theorem wV (h:PA X es t):PE X (.List es pos) (tLst t):=by
 intro pins s σ H Q I hq
 refine wpAny_List_spliced (thn (h pos pins s σ H _ I hq) fun us s1 ⟨xs,H1,I1,r,z,q⟩=>⟨by rw[← r.length];exact z,?_⟩)
 have hf:H1 s1.heap.objs.size=none:=I1.hok.fresh (Nat.le_refl _)
 refine⟨.ref s1.heap.objs.size,upd H1 s1.heap.objs.size (.lst xs),I1.laid (t':=s1.toks) (fun b u e=>Heap.get?_push_of_some _ e) (Nat.le_refl _) ?_,rfl,q _ hf⟩
 exact⟨z,us,0,r,Heap.get?_push_size _ rfl⟩
end
abbrev Sp:=List V→Hp→VK→XK→Prop
abbrev CXT:=List Env→Hp→Shared→XK→Value→Shared→Prop
structure Env0 (P:Program)(w:World)(K:PySem.W.Frag)(mg:Str→Option Value)(base:Heap)(A:Around)(outer:List Env)(s:Shared)(H:Hp):Prop where
 frames:A.frames=some outer
 mod:Mod K mg base
 bs:∀ b o,base.get? b=some o→s.heap.get? b=some o∧H b=none
 bsz:base.objs.size≤s.heap.objs.size
 funs:s.heap.FunFrames base outer
 frf:∀ b∈frs outer,H b=none
 hok:HOk P w H s.heap
 bare:AllBare s.gens
def CE (outer:List Env)(P:Program)(w:World)(H:Hp)(s:Shared)(Q:VK)(u:Value)(s':Shared):Prop :=
 ∃ v H',s'.os=s.os∧AllBare s'.gens∧Un (frs outer) [] H H' s.heap s'.heap∧HOk P w H' s'.heap∧RelV v u∧Q v H'
def CR (CX:CXT)(outer:List Env)(P:Program)(w:World)(H:Hp)(s:Shared)(Q:VK)(E:XK)(r:Result)(s':Shared):Prop :=
 match r with
 | .ok (.ret u)=>CE outer P w H s Q u s'
 | .ok _=>False
 | .error e=>CX outer H s E e s'
structure FnOk (P:Program)(w:World)(K:PySem.W.Frag)(mg:Str→Option Value)(base:Heap)(CX:CXT)(k:Nat)(f:Addr)(fd:FuncData)(ps:List Str)(sp:Sp):Prop where
 len:∀ vs H Q E,sp vs H Q E→vs.length=ps.length
 run:∀ (A:Around)(outer:List Env)(s:Shared)(H:Hp)(args:Args)(us:List Value)(vs:List V)(Q:VK)(E:XK),zCu k A→Env0 P w K mg base A outer s H→BindsTo s fd args (ps.zip us)→Vals vs us→sp vs H Q E →
  codeAny (model P w) A (.call (.ref f) args) (CR CX outer P w H s Q E) s
theorem FnOk.imp {P:Program}{w:World}{K:PySem.W.Frag}{mg:Str→Option Value}{base:Heap}{CX:CXT}{k:Nat}{f:Addr}{fd:FuncData}{ps:List Str}{sp sp':Sp}(F:FnOk P w K mg base CX k f fd ps sp)
  (h:∀ vs H Q E,sp' vs H Q E→sp vs H Q E):FnOk P w K mg base CX k f fd ps sp' :=
 ⟨fun vs H Q E q=>F.len vs H Q E (h _ _ _ _ q),fun A outer s H args us vs Q E hr he hb hv hs=>F.run A outer s H args us vs Q E hr he hb hv (h _ _ _ _ hs)⟩
theorem Env0.make {P:Program}{w:World}{K:PySem.W.Frag}{mg:Str→Option Value}{base:Heap}{A:Around}{outer:List Env}{s:Shared}{H:Hp}(e:Env0 P w K mg base A outer s H)(C:Addr)(us:List Value)(kw:List (Str×Value)) :
  Env0 P w K mg base (A.under (.builtin "type.__call__" ⟨.ref C::us,kw⟩)) outer s H:=⟨by first | exact e.frames | (simpa [Around.under,Code.envs,Code.isFrame,pushEnvs] using e.frames),e.mod,e.bs,e.bsz,e.funs,e.frf,e.hok,e.bare⟩
section
variable {X:Cx}{pins:List (Addr×Obj)}{σ:St}{H:Hp}{s s':Shared}
theorem Inv.env0 (I:Inv X pins σ H s):Env0 X.prog X.w X.K X.mg X.base X.A X.stack s H :=
 ⟨I.ok.frames,I.ok.mod,I.bs,Nat.le_trans I.ok.bsz I.sz,I.stack,I.stkFree,I.hok,I.bare⟩
theorem Inv.after {Q:VK}{u:Value}(I:Inv X pins σ H s)(h:CE X.stack X.prog X.w H s Q u s'):EP X pins σ Q u s':=by
 obtain⟨v,H',os,bare,un,hok,r,q⟩:=h
 obtain⟨hh,g,d,t,os'⟩:=s'
 obtain rfl:os'=s.os:=os
 exact⟨v,H',I.call (h':=hh) (g':=g) (d':=d) (t':=t) (ch:=[]) un hok bare (fun b z=>absurd z (by simp)),r,q⟩
end
def tCall (sp:Sp)(dvs:List V)(E:XK)(t:TA):TE:=fun σ H Q=>t σ H fun vs H1=>sp (vs ++ dvs) H1 Q E
def tMeth (C:Addr)(m:Str)(sp:Sp)(dvs:List V)(E:XK)(ta:TE)(t:TA):TE:=fun σ H Q=>ta σ H fun x H1=>∃ a dx fs,x=.ref a∧H1 a=some (.ins C dx fs)∧fs.lookup m=none ∧
 t σ H1 fun vs H2=>sp (x::(vs ++ dvs)) H2 Q E
def tMake (C:Addr)(sp:Sp)(dvs:List V)(E:XK)(t:TA):TE:=fun σ H Q=>t σ H fun vs H1=>∀ x dx,H1 x=none→H1 dx=none→dx≠x →
 sp (.ref x::(vs ++ dvs)) (upd (upd H1 dx (.own x)) x (.ins C dx [])) (fun v H2=>v=.non∧Q (.ref x) H2) E
def Binds (K:PySem.W.Frag)(fd:FuncData)(ps:List Str)(ds:List Value):Prop :=
 ∀ (s:Shared)(us:List Value),K.In s.heap→(us ++ ds).length=ps.length→BindsTo s fd ⟨us,[]⟩ (ps.zip (us ++ ds))
theorem Binds.all {K:PySem.W.Frag}{fd:FuncData}{ps:List Str}(h:∀ us:List Value,us.length=ps.length→bindArgs fd ⟨us,[]⟩=pure (ps.zip us)):Binds K fd ps []:=fun s us _ hl=>by
 rw[List.append_nil] at hl ⊢
 exact .of_eq (h us hl)
def Passes (CX:CXT)(X:Cx)(E:XK):Prop:=∀ (pins:List (Addr×Obj))(σ:St)(H:Hp)(s:Shared)(e:Value)(s':Shared),Inv X pins σ H s→CX X.stack H s E e s'→X.xe e s'
section
variable {X:Cx}{CX:CXT}{k:Nat}{f C:Addr}{fd:FuncData}{ps:List Str}{sp:Sp}{dvs:List V}{ds:List Value}{E:XK}{x m:Str}{p pos apos:Pos}{e o:Expr}{es:List Expr}{ta:TE}{t:TA}
theorem run_fn {pins:List (Addr×Obj)}{σ:St}{H:Hp}{s:Shared}{Q:VK}{us:List Value}{vs:List V}(F:FnOk X.prog X.w X.K X.mg X.base CX k f fd ps sp)(hr:zCu k X.A)(hb:Binds X.K fd ps ds)(hd:Vals dvs ds)(hx:Passes CX X E)
  (I:Inv X pins σ H s)(r:Vals vs us)(h:sp (vs ++ dvs) H Q E):wpAny (model X.prog X.w) X.A (call (.ref f) us) (EP X pins σ Q) X.xe s:=by
 have r2:Vals (vs ++ dvs) (us ++ ds):=r.append hd
 have hl:(us ++ ds).length=ps.length:=by rw[← r2.length];exact F.len _ _ _ _ h
 refine wpAny_call (codeAny_mono (F.run X.A X.stack s H ⟨us,[]⟩ (us ++ ds) (vs ++ dvs) Q E hr I.env0 (hb s us I.kIn hl) r2 h) fun r s' hq=>?_)
 cases r with
 | error e=>exact hx pins σ H s e s' I hq
 | ok fl =>
  cases fl with
  | ret u=>exact I.after hq
  | next=>exact False.elim hq
  | brk=>exact False.elim hq
  | cont=>exact False.elim hq
theorem pe_call (F:FnOk X.prog X.w X.K X.mg X.base CX k f fd ps sp)(hr:zCu k X.A)(hg:Gl X x)(hm:X.mg x=some (.ref f))(hk:PySem.W.keepIn X.K (.ref f)=true)(hb:Binds X.K fd ps ds)(hd:Vals dvs ds)(hx:Passes CX X E)
  (ha:PA X (e::es) t)(hdb:(x == ("__debug__":Str))=false:=by decide)(he:starEach (e::es) X.env=(false,eval e X.env)::starEach es X.env:=by rfl)(hpl:(backTo pos (starEach es X.env)).any (·.1)=false:=by rfl) :
  PE X (.Call (.Name x p) (e::es) [] pos) (tCall sp dvs E t):=by
 intro pins s σ H Q I h
 refine wpAny_Call_Name_kw (ld_glob I hg hm ?_ hdb)
 refine PySem.W.callWith_K (h₀:=X.base) I.ok.mod.kin hk (thn (ha pos pins s σ H _ I h) fun us s1 ⟨vs,H1,I1,r,q⟩=>⟨I1.kIn,?_⟩) he hpl
 exact run_fn F hr hb hd hx I1 r q
theorem pe_meth {pl:Sem Bool}(he:PE X o ta)(c:Cls X.K C)(hm:Meth X.K C m f)(F:FnOk X.prog X.w X.K X.mg X.base CX k f fd ps sp)(hr:zCu k X.A)(hb:Binds X.K fd ps ds)(hd:Vals dvs ds)(hx:Passes CX X E)(ha:PA X (e::es) t)
  (hst:starEach (e::es) X.env=(false,eval e X.env)::starEach es X.env:=by rfl)(hpl:(backTo pos (starEach es X.env)).any (·.1)=false:=by rfl)
  (ht:eval (.Call (.Attribute o m apos) (e::es) [] pos) X.env=(do
   let ov ← eval o X.env
   standAt apos.atName
   let (f,first) ← holding [ov] (getMethod ov m pl)
   callWith pos f first (backTo pos (starEach (e::es) X.env)) (backToKw pos (keywordEach [] X.env))):=by rfl) :
  PE X (.Call (.Attribute o m apos) (e::es) [] pos) (tMeth C m sp dvs E ta t):=by
 intro pins s σ H Q I h
 refine PySem.W.methodCall_KW (pl:=pl) (thn (he pins s σ H _ I h) fun u s1 ⟨x,H1,I1,rx,a,dx,fs,ex,ea,l,q⟩=>?_) ht
 subst ex
 obtain rfl:u=Value.ref a:=rx
 refine getmeth_ok I1 ea c hm l ?_
 refine PySem.W.callWith_K (first:=[.ref a]) (h₀:=X.base) I.ok.mod.kin hm.kp (thn (ha pos pins s1 σ H1 _ I1 q) fun us s2 ⟨vs,H2,I2,r,q2⟩=>⟨I2.kIn,?_⟩) hst hpl
 exact run_fn (us:=.ref a::us) (vs:=.ref a::vs) F hr hb hd hx I2 (.cons rfl r) q2
structure Mk (K:PySem.W.Frag)(C f:Addr):Prop where
 makes:PySem.W.makesIn K C=true
 init:PySem.W.findIn K (.ref C) "__init__"=some (some (.ref f))
 fn:PySem.W.isFn K (.ref f)=true
 kp:PySem.W.keepIn K (.ref C)=true
theorem run_make {pins:List (Addr×Obj)}{σ:St}{H:Hp}{s:Shared}{Q:VK}{us:List Value}{vs:List V}(M:Mk X.K C f)(F:FnOk X.prog X.w X.K X.mg X.base CX k f fd ps sp)(hr:zCu (k+1) X.A)(hb:Binds X.K fd ps ds)(hd:Vals dvs ds)
  (hx:Passes CX X E)(I:Inv X pins σ H s)(r:Vals vs us)
  (h:∀ x dx,H x=none→H dx=none→dx≠x→sp (.ref x::(vs ++ dvs)) (upd (upd H dx (.own x)) x (.ins C dx [])) (fun v H2=>v=.non∧Q (.ref x) H2) E) :
  wpAny (model X.prog X.w) X.A (call (.ref C) us) (EP X pins σ Q) X.xe s:=by
 have hq:=h (s.heap.objs.size+1) s.heap.objs.size (I.hok.fresh (Nat.le_succ _)) (I.hok.fresh (Nat.le_refl _)) (Nat.ne_of_lt (Nat.lt_succ_self _))
 have I2:=Inv.made (C:=C) I
 have r2:Vals (V.ref (s.heap.objs.size+1)::(vs ++ dvs)) (Value.ref (s.heap.objs.size+1)::(us ++ ds)):=.cons rfl (r.append hd)
 have hl:(Value.ref (s.heap.objs.size+1)::us ++ ds).length=ps.length:=by
  have e:=r2.length
  rw[F.len _ _ _ _ hq] at e
  exact e.symm
 refine wpAny_call (make_map (f:=f) I.kIn M.makes M.init (beq_iff_eq.mp M.fn) (codeAny_mono (F.run _ X.stack _ _ ⟨Value.ref (s.heap.objs.size+1)::us,[]⟩ (Value.ref (s.heap.objs.size+1)::(us ++ ds)) _ _ E (hr.make C us [])
  (I2.env0.make C us []) (hb _ (Value.ref (s.heap.objs.size+1)::us) I2.kIn hl) r2 hq) fun r s' hq'=>?_))
 cases r with
 | error e=>exact hx pins σ _ _ e s' I2 hq'
 | ok fl =>
  cases fl with
  | ret u =>
   obtain⟨v,H',I3,rv,ev,q3⟩:=I2.after hq'
   subst ev
   exact⟨rv,⟨V.ref (s.heap.objs.size+1),H',I3,rfl,q3⟩⟩
  | next=>exact False.elim hq'
  | brk=>exact False.elim hq'
  | cont=>exact False.elim hq'
theorem pe_make (M:Mk X.K C f)(F:FnOk X.prog X.w X.K X.mg X.base CX k f fd ps sp)(hr:zCu (k+1) X.A)(hg:Gl X x)(hm:X.mg x=some (.ref C))(hb:Binds X.K fd ps ds)(hd:Vals dvs ds)(hx:Passes CX X E)
  (ha:PA X (e::es) t)(hdb:(x == ("__debug__":Str))=false:=by decide)(he:starEach (e::es) X.env=(false,eval e X.env)::starEach es X.env:=by rfl)(hpl:(backTo pos (starEach es X.env)).any (·.1)=false:=by rfl) :
  PE X (.Call (.Name x p) (e::es) [] pos) (tMake C sp dvs E t):=by
 intro pins s σ H Q I h
 refine wpAny_Call_Name_kw (ld_glob I hg hm ?_ hdb)
 refine PySem.W.callWith_K (h₀:=X.base) I.ok.mod.kin M.kp (thn (ha pos pins s σ H _ I h) fun us s1 ⟨vs,H1,I1,r,q⟩=>⟨I1.kIn,?_⟩) he hpl
 exact run_make M F hr hb hd hx I1 r q
end
section
variable {X:Cx}{CX:CXT}{k:Nat}{f C:Addr}{fd:FuncData}{ps ks:List Str}{sp:Sp}{E:XK}{x m:Str}{p pos apos kpos:Pos}{e o:Expr}{es:List Expr}{kws:List Keyword}{te ta:TE}{t tk:TA}{nm:Option Str}
variable {g:List Value→List Value→List Value}{gV:List V→List V→List V}
end
structure zR (N P:List Str)(sc:Scope):Prop where
 kind:sc.kind=.function
 co:sc.isCoroutine=false
 gen:sc.isGenerator=false
 nd:N.Nodup
 pre:N.take P.length=P
 par:∀ x∈P,sc.names.lookup x=some .local∨sc.names.lookup x=some .cell
 nofree:∀ y∈sc.names,y.2≠.free
theorem bindL_out {kindOf:Str→Option NameKind}{x:Str}:∀ {binds:List (Str×Value)}{m:Str→Option Value},(∀ v,(x,v)∉binds)→bindL kindOf binds m x=m x
 | [],_,_=>rfl
 | (n,v)::r,m,h=>by
  unfold bindL
  rw[bindL_out fun w hw=>h w (List.mem_cons_of_mem _ hw)]
  split
  ·have:x≠n:=by rintro rfl;exact h v List.mem_cons_self
   simp [this]
  ·rfl
theorem bindC_out {kindOf:Str→Option NameKind}{x:Str}:∀ {binds:List (Str×Value)}{m:Str→Option Value},(∀ v,(x,v)∉binds)→bindC kindOf binds m x=m x
 | [],_,_=>rfl
 | (n,v)::r,m,h=>by
  unfold bindC
  rw[bindC_out fun w hw=>h w (List.mem_cons_of_mem _ hw)]
  split
  ·rfl
  ·have:x≠n:=by rintro rfl;exact h v List.mem_cons_self
   simp [this]
theorem bindL_get {kindOf:Str→Option NameKind}{x:Str}{v:Value}:∀ {P:List Str}{vs:List Value}{i:Nat}{m:Str→Option Value},P.Nodup→P[i]?=some x→vs[i]?=some v→kindOf x=some .local →
  bindL kindOf (P.zip vs) m x=some v
 | [],_,_,_,_,h,_,_=>by simp at h
 | _::_,[],_,_,_,_,h,_=>by simp at h
 | p::P,w::vs,0,m,nd,h1,h2,hk=>by
  simp at h1 h2;subst h1;subst h2
  show bindL kindOf ((p,w)::P.zip vs) m p=_
  unfold bindL
  rw[bindL_out fun v hv=>(List.nodup_cons.mp nd).1 (List.of_mem_zip hv).1,if_pos hk]
  simp
 | p::P,w::vs,i+1,m,nd,h1,h2,hk=>by
  show bindL kindOf ((p,w)::P.zip vs) m x=_
  unfold bindL
  exact bindL_get (i:=i) (List.nodup_cons.mp nd).2 (by simpa using h1) (by simpa using h2) hk
theorem bindC_get {kindOf:Str→Option NameKind}{x:Str}{v:Value}:∀ {P:List Str}{vs:List Value}{i:Nat}{m:Str→Option Value},P.Nodup→P[i]?=some x→vs[i]?=some v→kindOf x≠some .local →
  bindC kindOf (P.zip vs) m x=some v
 | [],_,_,_,_,h,_,_=>by simp at h
 | _::_,[],_,_,_,_,h,_=>by simp at h
 | p::P,w::vs,0,m,nd,h1,h2,hk=>by
  simp at h1 h2;subst h1;subst h2
  show bindC kindOf ((p,w)::P.zip vs) m p=_
  unfold bindC
  rw[bindC_out fun v hv=>(List.nodup_cons.mp nd).1 (List.of_mem_zip hv).1,if_neg hk]
  simp
 | p::P,w::vs,i+1,m,nd,h1,h2,hk=>by
  show bindC kindOf ((p,w)::P.zip vs) m x=_
  unfold bindC
  exact bindC_get (i:=i) (List.nodup_cons.mp nd).2 (by simpa using h1) (by simpa using h2) hk
def start (N:List Str)(vs:List V):St:=vs.map some ++ List.replicate (N.length-vs.length) none
def cxOf (CX:CXT)(P:Program)(w:World)(K:PySem.W.Frag)(mg:Str→Option Value)(base:Heap)(N:List Str)(qual:Str)(scope:Scope)(f:Addr)(cd:Value)(A:Around)(outer:List Env)(s:Shared)(H:Hp)(E:XK):Cx where
 prog:=P
 w:=w
 K:=K
 mg:=mg
 base:=base
 A:=A.deeper (envOfC qual scope s.heap.objs.size f cd)
 N:=N
 s₀:=s
 H₀:=H
 env:=envOfC qual scope s.heap.objs.size f cd
 outer:=outer
 stack:=envOfC qual scope s.heap.objs.size f cd::outer
 ex:=[]
 calm:=true
 fn:=fun _=>true
 pn:=[]
 xe:=fun e s'=>wpAny (model P w) (A.deeper (envOfC qual scope s.heap.objs.size f cd)) (leaving (envOfC qual scope s.heap.objs.size f cd) e) (fun _ s''=>CX outer H s E e s'') (fun e' s''=>CX outer H s E e' s'') s'
theorem cell_has {sc:Scope}{n:Nat}{x:Str}(h:sc.names.lookup x=some .cell):∃ c,(cellsFrom n sc.names []).lookup x=some c:=by
 have q:=PySem.W.cellsFrom_some sc.names n [] (.inl h)
 exact Option.isSome_iff_exists.mp q
theorem inv_start {CX:CXT}{P:Program}{w:World}{K:PySem.W.Frag}{mg:Str→Option Value}{base:Heap}{N ps:List Str}{qual:Str}{scope:Scope}{f:Addr}{cd:Value}{A:Around}{outer:List Env}{s s1:Shared}{H:Hp}{E:XK}{us:List Value}{vs:List V}
  (S:zR N ps scope)(hd:A.handled=none)(e0:Env0 P w K mg base A outer s H)(hl:vs.length=ps.length)(r:Vals vs us)
  (x:InCallC s s.heap.objs.size (bindL (envOfC qual scope s.heap.objs.size f cd).kindOf (ps.zip us) fun _=>none) (cellsFrom (s.heap.objs.size+1) scope.names []) (bindC (envOfC qual scope s.heap.objs.size f cd).kindOf (ps.zip us) fun _=>none) s1) :
  Inv (cxOf CX P w K mg base N qual scope f cd A outer s H E) [] (start N vs) H s1:=by
 have hpl:ps.length≤N.length:=by have:=congrArg List.length S.pre;rw[List.length_take] at this;omega
 obtain⟨h1,tk,rfl,hk⟩:=x.done
 have noA:∀ b:Addr,b∉(cxOf CX P w K mg base N qual scope f cd A outer s H E).ex:=fun b z=>absurd (show b∈([]:List Addr) from z) (by simp)
 refine⟨⟨e0.mod,S.kind,rfl,rfl,Nat.le_refl _,fun y z c h1 h2=>?_,fun y hy=>?_,fun y c _ h=>?_,fun _=>hd,Around.frames_deeper e0.frames,.inr ⟨rfl,rfl⟩,fun b z=>absurd z (noA b),e0.bs,e0.bsz,fun b _ _=>noA b,fun b z=>absurd z (noA b),e0.funs,e0.frf⟩,
  rfl,e0.bare,Un.kept hk,⟨_,x.toInCall.ns,fun i y v h1 h2 h3=>?_⟩,fun y c h=>⟨_,x.cell y c h⟩,e0.hok.fresh (Nat.le_refl _),fun y c h=>?_,fun p hp=>absurd (show p∈([]:List (Addr×Obj)) from hp) (by simp),e0.hok.kept hk,?_⟩
 ·exact name_of_addr x.apart (PySem.mem_of_lookup h1) (PySem.mem_of_lookup h2)
 ·have hy:scope.names.lookup y=some .cell∨scope.names.lookup y=some .free:=hy
  rcases hy with hy | hy
  ·exact cell_has hy
  ·exact absurd rfl (S.nofree _ (PySem.mem_of_lookup hy))
 ·exact Nat.le_of_lt (x.above y c (PySem.mem_of_lookup h))
 ·have hi:i < vs.length:=by
   unfold start at h2
   by_cases hi:i < vs.length
   ·exact hi
   ·rw[List.getElem?_append_right (by simpa using hi)] at h2
    rw[List.getElem?_replicate] at h2
    split at h2 <;> cases h2
  have ha:vs[i]?=some v:=by
   unfold start at h2
   rw[List.getElem?_append_left (by simpa using hi),List.getElem?_map] at h2
   cases e:vs[i]? with
   | none=>rw[e] at h2;cases h2
   | some a=>rw[e] at h2;cases h2;rfl
  obtain⟨u,hu,rv⟩:=r.get ha
  have hp:ps[i]?=some y:=by
   rw[← S.pre,List.getElem?_take_of_lt (by omega)];exact h1
  have ndP:ps.Nodup:=by rw[← S.pre];exact S.nd.sublist (List.take_sublist _ _)
  refine⟨u,rv,?_⟩
  rcases S.par y (List.mem_of_getElem? hp) with k | k
  ·exact .inl ⟨k,bindL_get ndP hp hu k⟩
  ·obtain⟨c,e⟩:=cell_has (n:=s.heap.objs.size+1) k
   refine .inr ⟨.inl k,c,e,?_⟩
   have q:=x.cell y c e
   rw[bindC_get ndP hp hu (by show scope.names.lookup y≠_;rw[k];decide)] at q
   exact q
 ·exact e0.hok.fresh (Nat.le_of_lt (x.above y c (PySem.mem_of_lookup h)))
 ·unfold start
  show _=N.length
  rw[List.length_append,List.length_map,List.length_replicate]
  omega
theorem fn_of {CX:CXT}{P:Program}{w:World}{K:PySem.W.Frag}{mg:Str→Option Value}{base:Heap}{k:Nat}{f:Addr}{name qual:Str}{params:Arguments}{body:List Stmt}{scope:Scope}{dV kV doc pm cdv ct oc:Value}{an od:Option Addr}
  {osl:Array (Option Value)}{N ps:List Str}{sp:Sp}(lk:K.lookup f=some ⟨oc,od,.func (PySem.W.fnOf name qual params body scope dV kV doc pm an cdv ct),osl⟩)(hcd:PySem.W.codeIn K cdv qual=true)(S:zR N ps scope)
  (len:∀ vs H Q E,sp vs H Q E→vs.length=ps.length)
  (hbody:∀ (A:Around)(outer:List Env)(s:Shared)(H:Hp)(vs:List V)(Q:VK)(E:XK),zCu k (A.deeper (envOfC qual scope s.heap.objs.size f cdv))→sp vs H Q E →
   ∃ t,PSs (cxOf CX P w K mg base N qual scope f cdv A outer s H E) body t∧t { nx:=fun _ H'=>Q .non H',rt:=Q } (start N vs) H) :
  FnOk P w K mg base CX (k+1) f (PySem.W.fnOf name qual params body scope dV kV doc pm an cdv ct) ps sp:=by
 refine⟨len,fun A outer s H args us vs Q E hr e0 hb r hsp=>?_⟩
 have hl:=len _ _ _ _ hsp
 have KX:K.In s.heap:=e0.mod.kin.keeps fun b o e=>(e0.bs b o e).1
 have lim:s.heap.NoLimit:=e0.mod.nolimit.keeps fun b o e=>(e0.bs b o e).1
 have hkind:∀ y∈ps.zip us,scope.names.lookup y.1=some .local∨(scope.names.lookup y.1=some .cell∧((cellsFrom (s.heap.objs.size+1) scope.names []).lookup y.1).isSome=true):=fun ⟨n,v⟩ hy=>by
  rcases S.par n (List.of_mem_zip hy).1 with q | q
  ·exact .inl q
  ·exact .inr ⟨q,PySem.W.cellsFrom_some _ _ _ (.inl q)⟩
 refine codeAny_call_function hr.depth (KX _ _ lk) rfl S.co S.gen rfl (PySem.W.codeRec_of KX hcd) (hb _ _ _ _ ?_)
 refine wpAny_newFunctionEnv_cells S.kind hkind fun env he s1 x=>?_
 subst he
 refine⟨lim.keeps x.toInCall.keep,codeAny_func ?_⟩
 obtain⟨t,ht,hq⟩:=hbody A outer s H vs Q E (hr.deeper _) hsp
 have I:Inv (cxOf CX P w K mg base N qual scope f cdv A outer s H E) [] (start N vs) H s1:=inv_start S hr.hd e0 hl r x
 refine wpAny_mono (ht [] s1 (start N vs) H _ I hq) (fun fl s' hs=>?_) fun e s' hs=>hs
 have fin:∀ {σ':St}{H':Hp}{v:V}{u:Value},Inv (cxOf CX P w K mg base N qual scope f cdv A outer s H E) [] σ' H' s'→RelV v u→Q v H'→CE outer P w H s Q u s' :=
  fun {σ' H' v u} J rv q=>⟨v,H',J.os,J.bare,J.base,J.hok,rv,q⟩
 cases fl with
 | ret u =>
  obtain⟨v,σ',H',J,rv,q⟩:=hs
  exact fin J rv q
 | next =>
  obtain⟨σ',H',J,q⟩:=hs
  exact fin (v:=V.non) (u:=Value.none) J rfl q
 | brk =>
  obtain⟨_,_,_,q⟩:=hs
  exact False.elim q
 | cont =>
  obtain⟨_,_,_,q⟩:=hs
  exact False.elim q
end L2
namespace L2
open PySem PySem.Spec PyProof.Rows
section
variable {X:Cx}{x:Str}{p pos:Pos}{e:Expr}{es:List Expr}{t:TA}{id T:String}{r:List V→Hp→VK→Prop}
def tCB (r:List V→Hp→VK→Prop)(t:TA):TE:=fun σ H Q=>t σ H fun vs H1=>r vs H1 Q
theorem zT (hc:zEb X (.builtin id) r)(hg:Gl X x)(hm:X.mg x=none)(hv:bootBuiltins x=some (.builtin id))(ha:PA X (e::es) t)(hn:x≠"__name__":=by decide)(hdb:(x == ("__debug__":Str))=false:=by decide)
  (he:starEach (e::es) X.env=(false,eval e X.env)::starEach es X.env:=by rfl)(hpl:(backTo pos (starEach es X.env)).any (·.1)=false:=by rfl):PE X (.Call (.Name x p) (e::es) [] pos) (tCB r t):=by
 intro pins s σ H Q I h
 refine wpAny_Call_Name_kw (zDe I hg hm hv ?_ hn hdb)
 exact PyProof.Rows.callWith_builtin1 (thn (ha pos pins s σ H _ I h) fun us s1 ⟨vs,H1,I1,r1,q1⟩=>hc pins s1 σ H1 vs us Q I1 r1 q1) he hpl
theorem pe_callTy (hc:zEb X (.type T) r)(hg:Gl X x)(hm:X.mg x=none)(hv:bootBuiltins x=some (.type T))(ha:PA X (e::es) t)(hn:x≠"__name__":=by decide)(hdb:(x == ("__debug__":Str))=false:=by decide)
  (he:starEach (e::es) X.env=(false,eval e X.env)::starEach es X.env:=by rfl)(hpl:(backTo pos (starEach es X.env)).any (·.1)=false:=by rfl):PE X (.Call (.Name x p) (e::es) [] pos) (tCB r t):=by
 intro pins s σ H Q I h
 refine wpAny_Call_Name_kw (zDe I hg hm hv ?_ hn hdb)
 exact PyProof.Rows.callWith_type1 (thn (ha pos pins s σ H _ I h) fun us s1 ⟨vs,H1,I1,r1,q1⟩=>hc pins s1 σ H1 vs us Q I1 r1 q1) he hpl
end
end L2
namespace HT
open PySem PyProof.Rows
section
open PySem.SeqAt
open PySem.AutoSeq1 (wpAny_loadPart')
open PySem.MeetsSeq PySem.MeetsSeq2 PySem.MeetsSeq3
end
section
variable {prog:Program}{w:World}{A:Around}{E:Value→Shared→Prop}{s:Shared}
def sIx (n d:Nat):Option Int→Nat
 | none=>d
 | some v=>if v < 0 then (v+(n:Int)).toNat else min v.toNat n
theorem sIx_none (n d:Nat):sIx n d none=d:=rfl
theorem sIx_nat (n d k:Nat):sIx n d (some (k:Int))=min k n:=by
 show (if (k:Int) < 0 then ((k:Int)+(n:Int)).toNat else min (k:Int).toNat n)=min k n
 rw[if_neg (by omega),Int.toNat_natCast]
end
end HT
namespace L2
open PySem PySem.Spec PyProof.Rows
abbrev TO:=St→Hp→(Option Int→Hp→Prop)→Prop
def PO (X:Cx)(e:Option Expr)(t:TO):Prop :=
 ∀ (pins:List (Addr×Obj))(s:Shared)(σ:St)(H:Hp)(Q:Option Int→Hp→Prop),Inv X pins σ H s→t σ H Q →
  wpAny (model X.prog X.w) X.A (evalPart e X.env) (fun u s'=>∃ o H',Inv X pins σ H' s'∧IsPart u o∧Q o H') X.xe s
def tNoPart:TO:=fun _ H Q=>Q none H
def tPart (t:TE):TO:=fun σ H Q=>t σ H fun x H1=>∃ i,x=.int i∧Q (some i) H1
section
variable {X:Cx}{e:Expr}{te:TE}{lo hi:Option Expr}{tl th:TO}{pos p2:Pos}
theorem po_none:PO X none tNoPart:=by
 intro pins s σ H Q I h
 rw[evalPart_none]
 exact wpAny_pure ⟨none,H,I,.none,h⟩
theorem wU (h:PE X e te):PO X (some e) (tPart te):=by
 intro pins s σ H Q I hw
 rw[evalPart_some]
 refine thn (h pins s σ H _ I hw) fun u s1 ⟨x,H1,I1,r1,q1⟩=>?_
 obtain⟨i,rfl,q⟩:=q1
 obtain⟨t,rfl⟩:=r1
 exact⟨some i,H1,I1,.int i t,q⟩
def SlR (X:Cx)(r:V→Option Int→Option Int→Hp→VK→Prop):Prop :=
 ∀ (pins:List (Addr×Obj))(s:Shared)(σ:St)(H:Hp)(x:V)(v vl vu:Value)(lo hi:Option Int)(sl:Addr)(Q:VK),Inv X pins σ H s→RelV x v→s.heap.IsSliceOf sl vl vu .none→IsPart vl lo→IsPart vu hi→r x lo hi H Q →
  ∃ T id,typeLookup (.type T) "__getitem__"=pure (some (.builtin id))∧s.TypeIs v T∧wpAny (model X.prog X.w) X.A (getItem v (.ref sl)) (EP X pins σ Q) X.xe s
def tSl (r:V→Option Int→Option Int→Hp→VK→Prop)(te:TE)(tl th:TO):TE:=fun σ H Q=>te σ H fun x H1=>tl σ H1 fun l H2=>th σ H2 fun u H3=>r x l u H3 Q
theorem j6 {r:V→Option Int→Option Int→Hp→VK→Prop}(hr:SlR X r)(he:PE X e te)(hl:PO X lo tl)(hu:PO X hi th):PE X (.Subscript e (.Slice lo hi none p2) pos) (tSl r te tl th):=by
 intro pins s σ H Q I h
 refine Subscript_ (thn (he pins s σ H _ I h) fun v s1 ⟨x,H1,I1,r1,q1⟩=>?_)
 refine wpAny_Slice (thn (hl pins s1 σ H1 _ I1 q1) fun vl s2 ⟨l,H2,I2,pl,q2⟩=>thn (hu pins s2 σ H2 _ I2 q2) fun vu s3 ⟨u,H3,I3,pu,q3⟩=>?_)
 rw[evalPart_none]
 refine wpAny_pure ?_
 have I4:Inv X pins σ H3 { s3 with heap:=s3.heap.push { cls:=.type "slice",data:=.fields #[vl,vu,.none] } }:=I3.kept (t':=s3.toks) fun b ob q=>Heap.get?_push_of_some _ q
 obtain⟨T,id,hT,ht,hg⟩:=hr pins { s3 with heap:=s3.heap.push { cls:=.type "slice",data:=.fields #[vl,vu,.none] } } σ H3 x v vl vu l u s3.heap.objs.size Q I4 r1 (Heap.IsSliceOf.new ..) pl pu q3
 show wpAny (model X.prog X.w) X.A (subscriptTail e (.Slice lo hi none p2) v (.ref s3.heap.objs.size)) (EP X pins σ Q) X.xe { s3 with heap:=s3.heap.push { cls:=.type "slice",data:=.fields #[vl,vu,.none] } }
 exact tail_any (ops:=[.ref s3.heap.objs.size,v]) ht hT hg (by with_unfolding_all rfl)
def cutV (xs:List V)(lo hi:Option Int):List V:=(xs.drop (HT.sIx xs.length 0 lo)).take (HT.sIx xs.length xs.length hi-HT.sIx xs.length 0 lo)
theorem cutV_length (xs:List V)(lo hi:Option Int):(cutV xs lo hi).length≤xs.length:=by
 unfold cutV
 rw[List.length_take,List.length_drop]
 omega
end
end L2
namespace L2
open PySem PySem.Spec PyProof.Rows
def ixN (n:Nat)(i:Int):Option Nat:=if 0≤i then (if i < n then some i.toNat else none) else if -(n:Int)≤i then some (i+n).toNat else none
def atI {α:Type}(xs:List α)(i:Int):Option α:=(ixN xs.length i).bind fun j=>xs[j]?
theorem ixN_seq {n:Nat}{i:Int}{j:Nat}(h:ixN n i=some j):seqIndex? i n=some j∧j < n∧-(n:Int)≤i∧i < n:=by
 unfold ixN at h
 by_cases h0:0≤i
 ·rw[if_pos h0] at h
  by_cases h1:i < n
  ·rw[if_pos h1] at h
   have e:i.toNat=j:=Option.some.inj h
   exact⟨by rw[seqIndex_of h0 h1,e],by omega,by omega,h1⟩
  ·rw[if_neg h1] at h;cases h
 ·rw[if_neg h0] at h
  by_cases h1:-(n:Int)≤i
  ·rw[if_pos h1] at h
   have e:(i+n).toNat=j:=Option.some.inj h
   exact⟨by rw[seqIndex_neg (by omega) h1,e],by omega,h1,by omega⟩
  ·rw[if_neg h1] at h;cases h
theorem atI_get {α:Type}{xs:List α}{i:Int}{v:α}(h:atI xs i=some v):∃ j,seqIndex? i xs.length=some j∧xs[j]?=some v∧j < xs.length∧-(xs.length:Int)≤i∧i < xs.length:=by
 unfold atI at h
 cases e:ixN xs.length i with
 | none=>rw[e] at h;cases h
 | some j =>
  rw[e] at h
  obtain⟨h1,h2,h3,h4⟩:=ixN_seq e
  exact⟨j,h1,h,h2,h3,h4⟩
theorem v4 {α:Type}{xs:List α}{j:Nat}{v:α}(h:xs[j]?=some v):atI xs (j:Int)=some v:=by
 have hj:j < xs.length:=(List.getElem?_eq_some_iff.mp h).1
 have e:ixN xs.length (j:Int)=some j:=by
  unfold ixN
  rw[if_pos (by omega),if_pos (by omega)];simp
 unfold atI;rw[e];exact h
def PlainIx (b:Expr):Prop:=∀ o i,subscripted b false o i=operate [o,i] (getItem o i)
def IxR (X:Cx)(r:R2):Prop :=
 ∀ (value slice:Expr)(pins:List (Addr×Obj))(s:Shared)(σ:St)(H:Hp)(x y:V)(v u:Value)(Q:VK),Inv X pins σ H s→RelV x v→RelV y u→r x y H Q →
  subscripted slice false v u=operate [v,u] (getItem v u)→wpAny (model X.prog X.w) X.A (subscriptTail value slice v u) (EP X pins σ Q) X.xe s
def MtR (X:Cx)(id:String)(r:V→List V→Hp→VK→Prop):Prop :=
 ∀ (pins:List (Addr×Obj))(s:Shared)(σ:St)(H:Hp)(x:V)(xs:List V)(v:Value)(us:List Value)(Q:VK),Inv X pins σ H s→RelV x v→Vals xs us→r x xs H Q →
  wpAny (model X.prog X.w) X.A (call (.builtin id) (v::us)) (EP X pins σ Q) X.xe s
section
variable {X:Cx}{a b:Expr}{ta tb:TE}{pos:Pos}
theorem vC {r:R2}(hr:IxR X r)(ha:PE X a ta)(hb:PE X b tb)(hs:PlainIx b):PE X (.Subscript a b pos) (tOp r ta tb):=by
 intro pins s σ H Q I h
 exact Subscript_ (binT ha hb I h fun v u s2 x y H2 I2 rx ry q=>hr a b pins s2 σ H2 x y v u Q I2 rx ry q (hs _ _))
def rIxL (K:PySem.W.Frag):R2:=fun x y H Q=>∃ p xs i v,x=.ref p∧y=.int i∧SqL K H p xs∧atI xs i=some v∧Q v H
def rIxT (K:PySem.W.Frag):R2:=fun x y H Q=>∃ p xs i v,x=.ref p∧y=.int i∧SqT K H p xs∧atI xs i=some v∧Q v H
theorem vP:IxR X (rIxL X.K):=by
 intro value slice pins s σ H x y v u Q I rx ry h hs
 obtain⟨p,xs,i,z,rfl,rfl,hq,he,q⟩:=h
 cases rx
 obtain⟨t,rfl⟩:=ry
 obtain⟨its,r,pl,hz⟩:=I.list hq
 obtain⟨j,h1,h2,h3,h4,h5⟩:=atI_get he
 obtain⟨w,ew,rw'⟩:=r.get h2
 have hl:=r.length
 have hn:=line63
 have fin:EP X pins σ Q w s:=⟨z,H,I,rw',q⟩
 by_cases h0:0≤i
 ·have hj:i.toNat=j:=by
   rw[seqIndex_of h0 h5] at h1
   exact Option.some.inj h1
  exact item_listR pl.isList h0 (by omega) (by rw[hj];simpa using ew) fin hs
 ·have hj:(i+(its.toArray.size:Int)).toNat=j:=by
   rw[seqIndex_neg (by omega) h4] at h1
   rw[List.size_toArray,← hl]
   exact Option.some.inj h1
  exact subscriptTail_builtinR (x:=w) pl.isList.typeIs slot_list_getitem.lookup
   (wpAny_getItem_list_neg (Q:=fun r s'=>r=w∧EP X pins σ Q r s') pl.isList (by omega) (by rw[List.size_toArray] <;> omega) (by omega) (by rw[hj];simpa using ew) ⟨rfl,fin⟩) hs
theorem vD:IxR X (rIxT X.K):=by
 intro value slice pins s σ H x y v u Q I rx ry h hs
 obtain⟨p,xs,i,z,rfl,rfl,hq,he,q⟩:=h
 cases rx
 obtain⟨t,rfl⟩:=ry
 obtain⟨its,r,pl,hz⟩:=I.tuple hq
 obtain⟨j,h1,h2,h3,h4,h5⟩:=atI_get he
 obtain⟨w,ew,rw'⟩:=r.get h2
 have hl:=r.length
 have hn:=line63
 have fin:EP X pins σ Q w s:=⟨z,H,I,rw',q⟩
 exact subscriptTail_builtinR (x:=w) pl.typeIs slot_tuple_getitem.lookup
  (getItem_tuple (j:=j) (Q:=fun r s'=>r=w∧EP X pins σ Q r s') pl (by omega) (by omega) (by rw[List.size_toArray,← hl];exact h1) (by simpa using ew) ⟨rfl,fin⟩) hs
theorem mapSeq_set (its:List Value)(n j:Nat)(u:Value):Obj.mapSeq (·.setIfInBounds j u) { cls:=.type "list",data:=.seq its.toArray n }={ cls:=.type "list",data:=.seq (its.set j u).toArray n }:=by
 simp [Obj.mapSeq]
theorem Inv.lst {pins:List (Addr×Obj)}{σ:St}{H:Hp}{s:Shared}{p:Addr}{xs:List V}(I:Inv X pins σ H s)(h:H p=some (.lst xs)) :
  ∃ (its:List Value)(n:Nat),Vals xs its∧s.heap.get? p=some { cls:=.type "list",data:=.seq its.toArray n }∧xs.length≤sizeLine:=by
 obtain⟨z,its,n,r,e⟩:=I.hok p _ h
 exact⟨its,n,r,e,z⟩
theorem Inv.lstUpd {pins:List (Addr×Obj)}{σ:St}{H:Hp}{s:Shared}{p:Addr}{xs ys:List V}{its its':List Value}{n n':Nat}{f:Obj→Obj}(I:Inv X pins σ H s)(h:H p=some (.lst xs))
  (ho:s.heap.get? p=some { cls:=.type "list",data:=.seq its.toArray n })(hf:f { cls:=.type "list",data:=.seq its.toArray n }={ cls:=.type "list",data:=.seq its'.toArray n' })(r:Vals ys its')(hz:ys.length≤sizeLine)(t:Nat) :
  Inv X pins σ (upd H p (.lst ys)) { s with heap:=s.heap.update p f,toks:=t }:=by
 have e:(s.heap.update p f).get? p=some { cls:=.type "list",data:=.seq its'.toArray n' }:=by
  rw[Heap.get?_update_self f ho (by rw[hf] <;> rfl),hf]
 refine I.write (x:=p) (e:=p) (by rw[h];trivial) (.inl rfl) (fun b u hb q=>(Heap.get?_update_other _ _ (Ne.symm hb)).trans q) ⟨_,e⟩ ?_
 exact⟨hz,its',n',r,e⟩
def rSetL:V→V→V→Hp→(Hp→Prop)→Prop:=fun o i v H Q=>∃ p xs k j,o=.ref p∧i=.int k∧H p=some (.lst xs)∧ixN xs.length k=some j∧Q (upd H p (.lst (xs.set j v)))
theorem set_list:PSet X rSetL:=by
 intro pins s σ H o i v ov iv u Q I ro ri rv h
 obtain⟨p,xs,k,j,rfl,rfl,hp,hj,q⟩:=h
 cases ro
 obtain⟨t,rfl⟩:=ri
 obtain⟨its,n,r,ho,hz⟩:=I.lst hp
 obtain⟨h1,h2,h3,h4⟩:=ixN_seq hj
 have hl:=r.length
 have hn:=line63
 have I':Inv X pins σ (upd H p (.lst (xs.set j v))) { s with heap:=s.heap.update p (Obj.mapSeq (·.setIfInBounds j u)) } :=
  I.lstUpd hp ho (mapSeq_set its n j u) (r.set rv j) (by rw[List.length_set];exact hz) s.toks
 by_cases h0:0≤k
 ·have hk:k.toNat=j:=by
   rw[seqIndex_of h0 h4] at h1
   exact Option.some.inj h1
  exact PySem.W.ki_setAt ho h0 (by omega) (by rw[List.size_toArray,← hl];exact h4) (by rw[hk];exact⟨_,I',q⟩)
 ·have hk:(k+(its.toArray.size:Int)).toNat=j:=by
   rw[seqIndex_neg (by omega) h3] at h1
   rw[List.size_toArray,← hl]
   exact Option.some.inj h1
  exact PySem.W.ki_setBack ho (by omega) (by rw[List.size_toArray,← hl];exact h3) (by omega) (by rw[hk];exact⟨_,I',q⟩)
theorem slice_bounds (lo hi:Option Int)(n:Nat):(sliceBounds lo hi none n).1=((HT.sIx n 0 lo:Nat):Int)∧(sliceBounds lo hi none n).2.1=((HT.sIx n n hi:Nat):Int)∧(sliceBounds lo hi none n).2.2=1:=by
 refine⟨?_,?_,rfl⟩
 ·cases lo with
  | none=>simp [sliceBounds,HT.sIx]
  | some i =>
   simp only [sliceBounds,HT.sIx,Option.getD_none,show (1:Int) > 0 by decide,if_true]
   by_cases h:i < 0
   ·simp only [h,if_true] <;> omega
   ·simp only [h,if_false] <;> omega
 ·cases hi with
  | none=>simp [sliceBounds,HT.sIx]
  | some i =>
   simp only [sliceBounds,HT.sIx,Option.getD_none,show (1:Int) > 0 by decide,if_true]
   by_cases h:i < 0
   ·simp only [h,if_true] <;> omega
   ·simp only [h,if_false] <;> omega
theorem slicePick_cut (its:List Value)(lo hi:Option Int):slicePick its.toArray lo hi none=((its.drop (HT.sIx its.length 0 lo)).take (HT.sIx its.length its.length hi-HT.sIx its.length 0 lo)).toArray:=by
 obtain⟨h1,h2,h3⟩:=slice_bounds lo hi its.toArray.size
 unfold slicePick
 rw[h1,h2,h3]
 simp only [sliceRange_one,pick_run,List.size_toArray] <;> rfl
def rSlL (K:PySem.W.Frag):V→Option Int→Option Int→Hp→VK→Prop:=fun x lo hi H Q=>∃ a xs,x=.ref a∧SqL K H a xs∧∀ p,H p=none→Q (.ref p) (upd H p (.lst (cutV xs lo hi)))
theorem zCz:SlR X (rSlL X.K):=by
 intro pins s σ H x v vl vu lo hi sl Q I rx hs pl pu h
 obtain⟨a,xs,rfl,hx,q⟩:=h
 cases rx
 obtain⟨its,r,ht,hz⟩:=I.list hx
 have hlen:=r.length
 refine⟨"list",_,slot_list_getitem.lookup,ht.isList.typeIs,?_⟩
 refine wpAny_getItem_list_slice ht.isList hs pl pu .none (by simp) ?_ (by rw[List.size_toArray] <;> omega)
 rw[slicePick_cut,← hlen]
 refine⟨.ref s.heap.objs.size,_,I.laid (t':=s.toks) (o:=.lst (cutV xs lo hi)) (fun b ob q=>Heap.get?_push_of_some _ q) (Nat.le_refl _) ?_,rfl,q _ (I.hok.fresh (Nat.le_refl _))⟩
 exact⟨Nat.le_trans (cutV_length xs lo hi) hz,_,0,(r.drop (HT.sIx xs.length 0 lo)).take (HT.sIx xs.length xs.length hi-HT.sIx xs.length 0 lo),Heap.get?_push_size _ rfl⟩
theorem zS:zEb X (.builtin "len") (fun xs H Q=>∃ p ys,xs=[.ref p]∧(SqL X.K H p ys∨SqT X.K H p ys)∧Q (.int ys.length) H):=by
 intro pins s σ H xs us Q I r h
 obtain⟨p,ys,rfl,hq,q⟩:=h
 obtain⟨u,rfl,rx⟩:=vals1 r
 cases rx
 have hn:=line63
 rcases hq with hq | hq
 ·obtain⟨its,r',pl,hz⟩:=I.list hq
  have hlen:=r'.length
  exact Calls.call_len_list pl.isList (by simp only [List.size_toArray] <;> omega) ⟨.int ys.length,H,I.tok _,⟨s.toks+1,by rw[List.size_toArray,hlen]⟩,q⟩
 ·obtain⟨its,r',pl,hz⟩:=I.tuple hq
  have hlen:=r'.length
  exact len_tuple pl (by simp only [List.size_toArray] <;> omega) ⟨.int ys.length,H,I.tok _,⟨s.toks+1,by rw[List.size_toArray,hlen]⟩,q⟩
theorem zDk:zEb X (.type "list") (fun xs H Q=>∃ p ys,xs=[.ref p]∧(SqL X.K H p ys∨SqT X.K H p ys)∧∀ l,H l=none→Q (.ref l) (upd H l (.lst ys))):=by
 intro pins s σ H xs us Q I r h
 obtain⟨p,ys,rfl,hq,q⟩:=h
 obtain⟨u,rfl,rx⟩:=vals1 r
 cases rx
 have fin:∀ (its:List Value),Vals ys its→ys.length≤sizeLine→∀ (h':Heap)(c':Nat),(∀ b o',s.heap.get? b=some o'→h'.get? b=some o') →
   h'.get? s.heap.objs.size=some { cls:=.type "list",dict:=none,data:=.seq its.toArray c',slots:=#[] }→EP X pins σ Q (.ref s.heap.objs.size) { s with heap:=h' }:=fun its r' hz h' c' kp e =>
  ⟨.ref s.heap.objs.size,_,I.laid (t':=s.toks) kp (Nat.le_refl _) (show zAb X.prog X.w _ h' _ (.lst ys) from ⟨hz,its,c',r',e⟩),rfl,q _ (I.hok.fresh (Nat.le_refl _))⟩
 rcases hq with hq | hq
 ·obtain⟨its,r',pl,hz⟩:=I.list hq
  have hlen:=r'.length
  obtain⟨o,ho,hc,n,hd⟩:=pl.isList
  exact call_list_seq p (.inl rfl) ho hc hd (fun h' c' kp e=>fin its r' hz h' c' kp e) (by simp only [List.size_toArray] <;> omega)
 ·obtain⟨its,r',pl,hz⟩:=I.tuple hq
  have hlen:=r'.length
  obtain⟨o,ho,hc,n,hd⟩:=pl
  exact call_list_seq p (.inr rfl) ho hc hd (fun h' c' kp e=>fin its r' hz h' c' kp e) (by simp only [List.size_toArray] <;> omega)
def tyV (K:PySem.W.Frag)(T:String)(x:V)(H:Hp):Prop:=match x with
 | .str _=>T = "str"
 | .int _=>T = "int"
 | .ref p=>(T = "list"∧∃ xs,SqL K H p xs)∨(T = "tuple"∧∃ o,K.lookup p=some o∧o.cls=.type "tuple"∧o.dict=none) ∨
   (T = "dict"∧((∃ kvs,H p=some (.dK kvs))∨∃ kvs,H p=some (.dT kvs)))∨(T = "set"∧∃ S n,H p=some (.set S n))
 | _=>False
theorem tyV_is {pins:List (Addr×Obj)}{σ:St}{H:Hp}{s:Shared}{T:String}{x:V}{v:Value}(I:Inv X pins σ H s)(r:RelV x v)(ty:tyV X.K T x H) :
  s.TypeIs v T∧∀ a,v=.ref a→∃ ob,s.heap.get? a=some ob∧ob.dict=none:=by
 cases x with
 | str z =>
  obtain⟨t,rfl⟩:=r
  cases (show T = "str" from ty)
  exact⟨typeIs_str s z t,fun _ e=>nomatch e⟩
 | int i =>
  obtain⟨t,rfl⟩:=r
  cases (show T = "int" from ty)
  exact⟨typeIs_int s i t,fun _ e=>nomatch e⟩
 | ref p =>
  cases r
  rcases ty with ⟨rfl,xs,hq⟩ | ⟨rfl,o,hk,hc,hd⟩ | ⟨rfl,hk⟩ | ⟨rfl,S,n,hk⟩
  ·obtain⟨its,_,pl,_⟩:=I.list hq
   refine⟨pl.isList.typeIs,fun a e=>?_⟩
   cases e
   obtain⟨o,n,e,c,hd,_⟩:=pl
   exact⟨o,e,hd⟩
  ·refine⟨⟨o,I.kIn p o hk,hc⟩,fun a e=>?_⟩
   cases e
   exact⟨o,I.kIn _ o hk,hd⟩
  ·have z:∃ o,s.heap.get? p=some o∧o.ExactDict:=by
    rcases hk with ⟨kvs,hk⟩ | ⟨kvs,hk⟩
    ·obtain⟨_,_,_,_,o,_,_,e,ex,_⟩:=I.hok p _ hk
     exact⟨o,e,ex⟩
    ·obtain⟨_,_,_,_,o,_,_,e,ex,_⟩:=I.hok p _ hk
     exact⟨o,e,ex⟩
   obtain⟨o,e,ex⟩:=z
   refine⟨⟨o,e,ex.1⟩,fun a e2=>?_⟩
   cases e2
   exact⟨o,e,ex.2.1⟩
  ·obtain⟨o,_,_,_,e,ex,_⟩:=I.hok p _ hk
   refine⟨⟨o,e,ex.1⟩,fun a e2=>?_⟩
   cases e2
   exact⟨o,e,ex.2.1⟩
 | _=>exact False.elim ty
def tBM0 (K:PySem.W.Frag)(T:String)(r:V→List V→Hp→VK→Prop)(to:TE):TE:=fun σ H Q=>to σ H fun x H1=>tyV K T x H1∧r x [] H1 Q
def tBM (K:PySem.W.Frag)(T:String)(r:V→List V→Hp→VK→Prop)(to:TE)(t:TA):TE:=fun σ H Q=>to σ H fun x H1=>tyV K T x H1∧t σ H1 fun xs H2=>r x xs H2 Q
variable {o e:Expr}{es:List Expr}{to:TE}{t:TA}{name:Str}{apos cpos:Pos}{T id:String}{r:V→List V→Hp→VK→Prop}
theorem pe_bm0 (pa:PlainAttrs T)(slot:Slot T name id)(hty:typeOf (.builtin id)=pure (.type "method_descriptor"))(hm:MtR X id r)(ho:PE X o to)
  (hbase:attributeBase o name X.env (eval o X.env)=eval o X.env:=by rfl)(hline:(apos.endLine == cpos.line)=true:=by rfl):PE X (.Call (.Attribute o name apos) [] [] cpos) (tBM0 X.K T r to):=by
 intro pins s σ H Q I h
 refine wpAny_Call_method0_late hbase hline (thn (ho pins s σ H _ I h) fun v s1 ⟨x,H1,I1,r1,ty,q1⟩=>?_)
 obtain⟨h1,h2⟩:=tyV_is I1 r1 ty
 exact⟨T,id,pa,slot,hty,h1,h2,Calls.callWith_builtin rfl (PySem.evalArgs_none (hm pins s1 σ H1 x [] v [] Q I1 r1 .nil q1))⟩
theorem pe_bm (pa:PlainAttrs T)(slot:Slot T name id)(hty:typeOf (.builtin id)=pure (.type "method_descriptor"))(hm:MtR X id r)(ho:PE X o to)(ha:PA X (e::es) t)
  (hbase:attributeBase o name X.env (eval o X.env)=eval o X.env:=by rfl)
  (hfew:((backTo cpos (starEach (e::es) X.env)).all (fun x=>!x.1) && (backToKw cpos (keywordEach [] X.env)).all (fun x=>x.1.isSome)
   && decide ((e::es).length+([]:List Keyword).length+(if ([]:List Keyword).isEmpty then 0 else 1) < 30))=true:=by rfl)
  (hline:(apos.endLine == cpos.line)=true:=by rfl)(hs:starEach (e::es) X.env=(false,eval e X.env)::starEach es X.env:=by rfl)(hplain:(backTo cpos (starEach es X.env)).any (·.1)=false:=by rfl) :
  PE X (.Call (.Attribute o name apos) (e::es) [] cpos) (tBM X.K T r to t):=by
 intro pins s σ H Q I h
 refine wpAny_Call_method_late hbase hfew hline rfl (thn (ho pins s σ H _ I h) fun v s1 ⟨x,H1,I1,r1,ty,q1⟩=>?_)
 obtain⟨h1,h2⟩:=tyV_is I1 r1 ty
 refine⟨T,id,pa,slot,hty,h1,h2,?_⟩
 have hA:=ha cpos pins s1 σ H1 _ I1 q1
 rw[hs] at hA ⊢
 refine Calls.callWith_builtin (by show (false || (backTo cpos (starEach es X.env)).any (·.1))=false;rw[hplain] <;> rfl) (Calls.evalArgs_plain ?_)
 exact thn hA fun us s2 ⟨vs,H2,I2,r2,q2⟩=>hm pins s2 σ H2 x vs v us Q I2 r1 r2 q2
end
end L2
namespace L2
open PySem PySem.Spec PyProof.Rows
def MtM (X:Cx)(id:String)(r:V→List V→Hp→VK→Prop):Prop :=
 ∀ (pins:List (Addr×Obj))(s:Shared)(σ:St)(H:Hp)(x:V)(xs:List V)(v:Value)(us:List Value)(Q:VK),Inv X pins σ H s→RelV x v→Vals xs us→r x xs H Q →
  wpAny (model X.prog X.w) X.A (call (.builtin id) (v::us)) (EP X pins σ Q) X.xe s
theorem Vals.one:∀ {x:V}{us:List Value},Vals [x] us→∃ u,us=[u]∧RelV x u
 | _,_,.cons r .nil=>⟨_,rfl,r⟩
theorem Vals.rep {xs:List V}{us:List Value}(h:Vals xs us):∀ k:Nat,Vals (List.replicate k xs).flatten (List.replicate k us).flatten
 | 0=>.nil
 | k+1=>by
  rw[List.replicate_succ,List.replicate_succ,List.flatten_cons,List.flatten_cons]
  exact Vals.append h (Vals.rep h k)
theorem foldl_rep (its:List Value):∀ (k:Nat)(acc:List Value),
  List.foldl (fun x1 x2=>x1 ++ x2) acc.toArray (List.replicate k its.toArray)=(acc ++ (List.replicate k its).flatten).toArray
 | 0,acc=>by simp
 | k+1,acc=>by
  have e:acc.toArray ++ its.toArray=(acc ++ its).toArray:=by simp
  have e2:(acc ++ its) ++ (List.replicate k its).flatten=acc ++ (List.replicate (k+1) its).flatten:=by
   rw[List.replicate_succ,List.flatten_cons,List.append_assoc]
  rw[← e2,← foldl_rep its k (acc ++ its),← e,List.replicate_succ,List.foldl_cons]
section
variable {X:Cx}{pins:List (Addr×Obj)}{σ:St}{H:Hp}{s:Shared}{l b:Addr}{xs ys zs:List V}
theorem Inv.lset {its its':List Value}{n:Nat}{f:Array Value→Array Value}{t':Nat}(I:Inv X pins σ H s)(hH:H l=some (.lst xs))
  (e:s.heap.get? l=some { cls:=.type "list",data:=.seq its.toArray n })(hf:f its.toArray=its'.toArray)(hv:Vals ys its')(hz:ys.length≤sizeLine) :
  Inv X pins σ (upd H l (.lst ys)) { s with heap:=s.heap.update l (Obj.mapSeq f),toks:=t' }:=by
 have q:=PySem.IsL.update e f
 rw[hf] at q
 refine I.write (x:=l) (e:=l) (by rw[hH];exact trivial) (.inl rfl) (fun b' u hb hu=>(Heap.get?_update_other s.heap (Obj.mapSeq f) (Ne.symm hb)).trans hu) ⟨_,q⟩ ?_
 exact⟨hz,its',_,hv,q⟩
theorem Inv.lnew {its:List Value}{t':Nat}(I:Inv X pins σ H s)(hv:Vals ys its)(hz:ys.length≤sizeLine) :
  Inv X pins σ (upd H s.heap.objs.size (.lst ys)) { s with heap:=s.heap.push { cls:=.type "list",data:=.seq its.toArray },toks:=t' } :=
 I.laid (fun _ _ q=>Heap.get?_push_of_some _ q) (Nat.le_refl _) ⟨hz,its,0,hv,Heap.get?_push_size _ rfl⟩
theorem Inv.fresh (I:Inv X pins σ H s):H s.heap.objs.size=none:=I.hok.fresh (Nat.le_refl _)
theorem Inv.lstM (I:Inv X pins σ H s)(hH:H l=some (.lst xs)):xs.length≤sizeLine∧∃ (its:List Value)(n:Nat),Vals xs its∧xs.length=its.length∧s.heap.get? l=some { cls:=.type "list",data:=.seq its.toArray n }:=by
 obtain⟨z,its,n,r,e⟩:=I.hok l _ hH
 exact⟨z,its,n,r,r.length,e⟩
theorem notLongL {n:Nat}(h:n≤sizeLine):Builtin.List.listTooLong n=false:=by
 unfold Builtin.List.listTooLong
 exact decide_eq_false (by omega)
end
section
variable {X:Cx}
def rAppend:V→List V→Hp→VK→Prop:=fun x vs H Q=>∃ l xs y,x=.ref l∧vs=[y]∧H l=some (.lst xs)∧xs.length < sizeLine∧Q .non (upd H l (.lst (xs ++ [y])))
theorem jU:MtM X "list.append" rAppend:=by
 intro pins s σ H x vs v us Q I rx rv h
 obtain⟨l,xs,y,rfl,rfl,hH,hz,q⟩:=h
 cases rx
 obtain⟨u,rfl,ru⟩:=rv.one
 obtain⟨z,its,n,r,hl,e⟩:=I.lstM hH
 refine call_meets F.slot_list_append ⟨_,e,rfl⟩ F.entry_list_append (F.args_list_append_2 _ _) (PySem.list_append l its.toArray n u (by rw[List.size_toArray];omega)) ⟨e,?_⟩
 refine⟨.non,_,I.lset (its':=its ++ [u]) hH e (by simp) (r.append (.cons ru .nil)) ?_,rfl,q⟩
 rw[List.length_append,List.length_singleton]
 omega
def rCat:R2:=fun x y H Q=>∃ l b xs zs,x=.ref l∧y=.ref b∧H l=some (.lst xs)∧H b=some (.lst zs)∧xs.length+zs.length≤sizeLine∧∀ p,H p=none→Q (.ref p) (upd H p (.lst (xs ++ zs)))
theorem zFb:OpR X (binaryOp .Add) rCat:=by
 intro pins s σ H x y v u Q I rx ry h
 obtain⟨l,b,xs,zs,rfl,rfl,hH,hB,hz,q⟩:=h
 cases rx
 cases ry
 obtain⟨z,its,n,r,hl,e⟩:=I.lstM hH
 obtain⟨z2,its2,n2,r2,hl2,e2⟩:=I.lstM hB
 refine PySem.P.add_list e e2 ?_ (by rw[List.size_toArray,List.size_toArray];omega)
 have ea:its.toArray ++ its2.toArray=(its ++ its2).toArray:=by simp
 rw[ea]
 exact⟨.ref _,_,I.lnew (t':=s.toks) (r.append r2) (by rw[List.length_append];omega),rfl,q _ I.fresh⟩
def rRep:R2:=fun x y H Q=>∃ l k xs,x=.ref l∧y=.int k∧H l=some (.lst xs)∧-(2^63)≤k∧k < 2^63∧xs.length*k.toNat≤sizeLine ∧
 ∀ p,H p=none→Q (.ref p) (upd H p (.lst (List.replicate k.toNat xs).flatten))
theorem len_rep {α:Type}(xs:List α)(k:Nat):(List.replicate k xs).flatten.length=k*xs.length:=by
 induction k with
 | zero=>simp
 | succ k ih=>rw[List.replicate_succ,List.flatten_cons,List.length_append,ih,Nat.succ_mul,Nat.add_comm]
theorem zEx:OpR X (binaryOp .Mult) rRep:=by
 intro pins s σ H x y v u Q I rx ry h
 obtain⟨l,k,xs,rfl,rfl,hH,h1,h2,hz,q⟩:=h
 cases rx
 obtain⟨t,rfl⟩:=ry
 obtain⟨z,its,n,r,hl,e⟩:=I.lstM hH
 have hlen:its.toArray.size*k.toNat≤sizeLine:=by rw[List.size_toArray,← hl];exact hz
 have hcap:¬ its.toArray.size*k.toNat > (2^63-1)/8:=by
  have:(sizeLine:Nat)≤(2^63-1)/8:=by decide
  omega
 have hfit:¬ (!Builtin.List.listFitsIndex k)=true:=by
  rw[fitsIndex_both h1 h2]
  exact Bool.false_ne_true
 have hlong:¬ Builtin.List.listTooLong (its.toArray.size*k.toNat)=true:=by
  rw[notLongL hlen]
  exact Bool.false_ne_true
 have hnew:List.foldl (fun x1 x2=>x1 ++ x2) #[] (List.replicate (if its.toArray.isEmpty=true then 0 else k.toNat) its.toArray)=(List.replicate k.toNat its).flatten.toArray:=by
  have f0:∀ m:Nat,List.foldl (fun x1 x2=>x1 ++ x2) #[] (List.replicate m its.toArray)=(List.replicate m its).flatten.toArray:=fun m=>by
   have:=foldl_rep its m []
   rw[List.nil_append] at this
   exact this
  rw[f0]
  cases its with
  | nil=>simp
  | cons a r'=>rw[if_neg (by simp)]
 refine wpAny_binaryOp_repeat_ref (T:="list") (U:="int") (by decide) ⟨_,e,rfl⟩ (fun s'=>typeIs_int s' k t) noFill_list_mul F.fills_int_mul F.slot_int_rmul repeat_list F.slot_int_index.lookup
  (call_meets F.slot_int_rmul (typeIs_int s k t) F.entry_int_rmul (F.args_int_rmul_2 _ _) (int___rmul___int_list k t l its.toArray n)
   ⟨e,rfl,⟨_,e,rfl⟩,call_meets F.slot_list_mul ⟨_,e,rfl⟩ F.entry_list_mul (F.args_list_mul_2 _ _) (AutoListH.list___mul___list_int_3 l its.toArray n k t hfit hcap hlong) ⟨e,?_⟩⟩)
 rw[hnew]
 exact⟨.ref _,_,I.lnew (t':=s.toks) (r.rep k.toNat) (by rw[len_rep,Nat.mul_comm];exact hz),rfl,q _ I.fresh⟩
end
section
variable {prog:Program}{w:World}{A:Around}{E:Value→Shared→Prop}{s:Shared}
end
section
variable {X:Cx}
end
end L2
namespace Att
open PySem PySem.W PySem.Calls PyProof.Rows
theorem zEp {P:Params}{h:Heap}:∀ (ns:List Int)(vs:List Value),WellAll P h vs (ns.map WData.int)→IntsAre vs ns:=by
 intro ns
 induction ns with
 | nil =>
  intro vs w
  rw[List.map_nil] at w
  cases w
  exact .nil
 | cons n ns ih =>
  intro vs w
  rw[List.map_cons] at w
  cases w with
  | cons a b =>
   cases a
   exact .cons _ _ (ih _ b)
theorem script_of {l:OpenLaw}{n:Nat}(hn:l.most=some n){P:Params}{h:Heap}{args:List WData}{vals:List Value}
  (hpre:l.row.toRowW.claim.pre args=true)(hwl:WellAll P h vals args) :
  ∃ a vs ns,vals=[Value.ref a]∧args=[WData.list (ns.map WData.int)]∧h.get? a=some { cls:=.type "list",data:=.seq vs.toArray }∧IntsAre vs ns∧ns.length≤n:=by
 have hsh:WShape.hasAll [] args [.list .int]=true:=(pre_splitW hpre).1
 have hc:l.pre.holds [] { args:=args }=true:=(pre_splitW hpre).2
 obtain⟨d,r,rfl,h1,h2⟩:=hasAllW_cons hsh
 obtain rfl:=hasAllW_nil h2
 obtain⟨xs,rfl,h3⟩:=hasW_list h1
 obtain⟨ns,rfl⟩:=items_int h3
 have hlen:ns.length≤n:=by
  unfold OpenLaw.pre at hc
  have h4:(WTm.not (.lt (.lit (.int (n:Int))) (.len (.arg 0)))).holds [] { args:=[.list (ns.map .int)] }=true:=by
   have h4:=(holds_andW hc).1
   rw[hn] at h4
   exact h4
  have h5:=condW_of h4 (w_not (w_lt w_lit (w_len_list (w_arg rfl))))
  rw[List.length_map] at h5
  refine Nat.le_of_not_lt fun q=>?_
  have q':(n:Int) < ((ns.length:Nat):Int):=by omega
  first
   | (rw[decide_eq_true q'] at h5;exact absurd h5 (by decide))
   | (simp at h5;omega)
 cases hwl with
 | cons w1 w2 =>
  cases w2
  cases w1 with
  | list ho hall=>exact⟨_,_,ns,rfl,rfl,ho,zEp ns _ hall,hlen⟩
theorem post_true (l:OpenLaw)(args:List WData):l.row.toRowW.claim.post args (.bool true) args=true :=
 postW_of (r:=l.row.toRowW) (X:=(true == true))
  (show WShape.has [] (.bool true) .bool=true by first | rfl | decide | simp [WShape.has,WShape.arms,WShape.armsAll])
  (show (WTm.eq .res (.lit (.bool true))).value [] { args:=args,res:=some (.bool true),after:=args }=some (.bool (true == true)) from w_eq_bool (w_res rfl) w_lit) rfl
theorem attach_call {l:OpenLaw}{n:Nat}{q:Program}{loose:List Str}{XP:(Str→Option Value)→Heap→Prop}{YP:World→Heap→Prop}{d:DefRec}
  (hn:l.most=some n)(hdf:d.params.defaults=[])
  (call:∀ (w:World)(s₀ s₁:Shared)(mg mb:Str→Option Value)(fa:Addr)(o:Obj)(pm cd doc:Value)(a:Addr)(vs:List Value)(ns:List Int),
   Ground q loose [] XP w s₀ mg mb s₁.heap→YP w s₁.heap →
   s₁.heap.get? fa=some o→o.data=.func (docDef d.name d.params d.body d.scope pm cd doc)→s₁.heap.CodeRec cd d.name→mg d.name=some (.ref fa) →
   s₁.heap.get? a=some { cls:=.type "list",data:=.seq vs.toArray }→IntsAre vs ns→ns.length≤n→s₁.gens=#[] →
   codeAny (model l.prog w) callerA (.call (.ref fa) ⟨[.ref a],[]⟩) (fun r s'=>r=.ok (.ret (.bool true))∧OldK s₁.heap s'.heap∧s'.os=s₁.os∧AllBare s'.gens) s₁) :
  WalkO q loose XP YP l.row.toRowW d [] (fun f vs=>PySem.call f vs):=by
 intro w s₀ s₁ mg mb G Y fa o pm cd doc dV kV ho hd hcd hD hmg hg args vals as hpre hlay hrd hwl hlo
 obtain rfl:dV=.none:=Dflts.none hD hdf
 obtain rfl:kV=.none:=Dflts.noKw hD
 obtain⟨a,vs,ns,rfl,rfl,hobj,hints,hlen⟩:=script_of hn hpre hwl
 refine enter_call (codeAny_mono (call w s₀ s₁ mg mb fa o pm cd doc a vs ns G Y ho (fd_plain hd) hcd hmg hobj hints hlen hg) fun r s' hq=>?_)
 obtain⟨rfl,h2,h3,h4⟩:=hq
 exact⟨.inl ⟨.bool true,.bool true,[],rfl,fun _=>rfl,.bool true,post_true l _,fun _=>⟨List.Pairwise.nil,fun _ hm=>(nomatch hm)⟩⟩,h2,h3,h4⟩
section
variable {prog:Program}{w:World}{A:Around}{E:Value→Shared→Prop}{s:Shared}{K:Frag}
end
end Att
namespace L2
open PySem PySem.Spec PyProof.Rows
theorem vals_ints:∀ {vs:List Value}{ns:List Int},IntsAre vs ns→Vals (ns.map V.int) vs
 | _,_,.nil=>.nil
 | _,_,.cons n t h=>.cons ⟨t,rfl⟩ (vals_ints h)
def Only (H:Hp):Prop:=∀ b,H b=none∨∃ o xs,H b=some (.frz o (.lst xs))
theorem law_call {P:Program}{w:World}{K:PySem.W.Frag}{mg mb:Str→Option Value}{CX:CXT}{k:Nat}{fa a:Addr}{fd:FuncData}{x:Str}{sp:Sp}{s₁:Shared}{vs:List Value}{ns:List Int}
  (KX:K.In s₁.heap)(hns:s₁.heap.Ns mainGlobals mg)(hb:s₁.heap.Ns builtinsNs mb)(hbb:∀ x:Str,x≠"__name__"→mb x=bootBuiltins x)(hlim:s₁.heap.NoLimit)(hg:s₁.gens=#[])
  (ha:s₁.heap.get? a=some { cls:=.type "list",data:=.seq vs.toArray })(hi:IntsAre vs ns)(hl:ns.length≤sizeLine)(hr:zCu k callerA)
  (F:∀ base:Heap,K.In base→base.Ns mainGlobals mg→FnOk P w K mg base CX k fa fd [x] sp)(hbind:∀ (s:Shared)(u:Value),BindsTo s fd ⟨[u],[]⟩ [(x,u)])
  (hsp:∀ H:Hp,Only H→SqL K H a (ns.map V.int)→sp [.ref a] H (fun v _=>v=.bl true) fun _ _ _=>False)
  (hCX:∀ H e s',CX [] H s₁ (fun _ _ _=>False) e s'→False) :
  codeAny (model P w) callerA (.call (.ref fa) ⟨[.ref a],[]⟩) (fun r s'=>r=.ok (.ret (.bool true))∧OldK s₁.heap s'.heap∧s'.os=s₁.os∧AllBare s'.gens) s₁:=by
 have rv:=vals_ints hi
 have lenV:=hi.length
 -- from an abstract heap in which nothing but the script may be tracked
 have core:∀ H:Hp,Only H→SqL K H a (ns.map V.int)→HOk P w H s₁.heap→(∀ b,H b≠none→b=a)→(H a≠none→K.lookup a=none) →
   codeAny (model P w) callerA (.call (.ref fa) ⟨[.ref a],[]⟩) (fun r s'=>r=.ok (.ret (.bool true))∧OldK s₁.heap s'.heap∧s'.os=s₁.os∧AllBare s'.gens) s₁:=by
  intro H hO hS hok hA hK
  have base_of:∀ {b:Addr}{o:Obj},s₁.heap.get? b=some o→H b=none→(hidT s₁.heap H).get? b=some o:=fun e n=>hidT_get e n
  have noA:∀ {b:Addr}{o:Obj}{es:Array DictEntry}{ep:Nat},s₁.heap.get? b=some o→o.data=.dict es ep→H b=none:=fun {b o es ep} e d=>by
   cases q:H b with
   | none=>rfl
   | some u =>
    have e':b=a:=hA b (by rw[q];simp)
    subst e'
    rw[ha] at e;cases e
    have d':Data.seq vs.toArray _=Data.dict es ep:=d
    cases d'
  have nsK:∀ {b:Addr}{m:Str→Option Value},s₁.heap.Ns b m→(hidT s₁.heap H).Ns b m:=fun {b m} ⟨o,es,ep,e,d,r⟩=>⟨o,es,ep,base_of e (noA e d),d,r⟩
  have hKb:K.In (hidT s₁.heap H):=fun b o e=>base_of (KX b o e) (by
   cases q:H b with
   | none=>rfl
   | some u =>
    have e':b=a:=hA b (by rw[q];simp)
    subst e'
    rw[hK (by rw[q];simp)] at e;cases e)
  have hM:Mod K mg (hidT s₁.heap H):=⟨hKb,nsK hns,⟨mb,nsK hb,hbb⟩,let ⟨mc,h1,h2⟩:=hlim;⟨mc,nsK h1,h2⟩⟩
  have e0:Env0 P w K mg (hidT s₁.heap H) callerA [] s₁ H:=⟨rfl,hM,fun b o e=>of_hidT e,Nat.le_of_eq (hidT_size _ _),trivial,fun b hb=>absurd (show b∈([]:List Addr) from hb) (by simp),hok,.of_eq hg⟩
  refine codeAny_mono ((F _ hKb (nsK hns)).run callerA [] s₁ H ⟨[.ref a],[]⟩ [.ref a] [.ref a] _ _ hr e0 (hbind s₁ (.ref a)) (.cons rfl .nil) (hsp H hO hS)) fun r s' h=>?_
  cases r with
  | error e=>exact (hCX H e s' h).elim
  | ok fl =>
   cases fl with
   | next=>exact False.elim h
   | brk=>exact False.elim h
   | cont=>exact False.elim h
   | ret u =>
    obtain⟨v,H',os,bare,un,hok',r',q⟩:=h
    have q':v=.bl true:=q
    subst q'
    obtain rfl:u=Value.bool true:=r'
    refine⟨rfl,OldK.of_keep fun b o e=>?_,os,bare⟩
    cases q:H b with
    | none=>exact un.keep b o e q (by intro z;exact absurd (show b∈([]:List Addr) from z) (by simp)) (by simp)
    | some u =>
     rcases hO b with z | ⟨ob,xs,z⟩
     ·rw[q] at z;cases z
     ·have z2:=un.frzs b ob _ z
      obtain⟨e1,_⟩:=hok b _ z
      obtain⟨e2,_⟩:=hok' b _ z2
      rw[e] at e1;cases e1
      exact e2
 cases hk:K.lookup a with
 | some o =>
  -- the script is one of the module's own objects
  have e:=KX a o hk
  rw[ha] at e
  cases e
  refine core (fun _=>none) (fun _=>.inl rfl) (.inr ⟨_,vs.toArray,_,hk,rfl,rfl,rfl,by rw[List.size_toArray,lenV];exact hl,by simpa using rv⟩) (fun b u z=>by have z':(none:Option HO)=some u:=z;cases z') (fun b z=>absurd rfl z) fun z=>absurd rfl z
 | none =>
  refine core (fun b=>if b=a then some (.frz { cls:=.type "list",data:=.seq vs.toArray } (.lst (ns.map V.int))) else none) (fun b=>?_) (.inl (.inr ⟨{ cls:=.type "list",data:=.seq vs.toArray },if_pos rfl⟩)) (fun b u z=>?_) (fun b z=>?_) fun _=>hk
  ·by_cases hb:b=a
   ·exact .inr ⟨_,_,if_pos hb⟩
   ·exact .inl (if_neg hb)
  ·by_cases hb:b=a
   ·have z':=(if_pos hb).symm.trans z
    cases z'
    subst hb
    exact⟨ha,by rw[List.length_map];exact hl,vs,_,rv,ha⟩
   ·have z':=(if_neg hb).symm.trans z
    cases z'
  ·by_cases hb:b=a
   ·exact hb
   ·exact absurd (if_neg hb) z
end L2
namespace L2
open PySem PySem.Spec PyProof.Rows
theorem walk_of {l:PySem.W.OpenLaw}{n k:Nat}{q:Program}{loose:List Str}{XP:(Str→Option Value)→Heap→Prop}{YP:World→Heap→Prop}{d:DefRec}{K:Params→PySem.W.Frag}{CX:World→CXT}{sp:World→Sp}{x:Str}
  (hn:l.most=some n)(hn2:n≤sizeLine)(hdf:d.params.defaults=[])(hr:zCu k callerA)
  (hY:∀ (w:World)(h:Heap),YP w h→(K w.params).In h)
  (F:∀ (w:World)(mg:Str→Option Value)(fa:Addr)(h:Heap),(K w.params).In h→h.Ns mainGlobals mg→mg d.name=some (.ref fa) →
   ∃ fd:FuncData,(∀ (s:Shared)(u:Value),BindsTo s fd ⟨[u],[]⟩ [(x,u)]) ∧
    ∀ base:Heap,(K w.params).In base→base.Ns mainGlobals mg→FnOk l.prog w (K w.params) mg base (CX w) k fa fd [x] (sp w))
  (hsp:∀ (w:World)(H:Hp)(a:Addr)(ns:List Int),ns.length≤n→Only H→SqL (K w.params) H a (ns.map V.int)→sp w [.ref a] H (fun v _=>v=.bl true) fun _ _ _=>False)
  (hCX:∀ (w:World)(H:Hp)(s:Shared)(e:Value)(s':Shared),CX w [] H s (fun _ _ _=>False) e s'→False) :
  PySem.W.WalkO q loose XP YP l.row.toRowW d [] (fun f vs=>PySem.call f vs):=by
 refine Att.attach_call hn hdf fun w s₀ s₁ mg mb fa o pm cd doc a vs ns G Y ho hd hcd hmg hobj hints hlen hg=>?_
 have KX:=hY w _ Y
 obtain⟨fd,hb,hF⟩:=F w mg fa _ KX G.T.g hmg
 exact law_call KX G.T.g G.T.b G.T.builtins G.T.nolimit hg hobj hints (Nat.le_trans hlen hn2) hr hF hb (fun H hO hS=>hsp w H a ns hlen hO hS) fun H e s'=>hCX w H s₁ e s'
end L2
namespace L2
open PySem PySem.Spec PyProof.Rows
def inClass (s:Stmt)(j:Nat):Stmt:=match s with
 | .ClassDef _ _ _ body _ _ _ _ _ _ _=>body.getD j (.Pass ⟨0,0,0,0⟩)
 | _=>.Pass ⟨0,0,0,0⟩
def wA (s:Stmt):Arguments:=match s with
 | .FunctionDef _ a _ _ _ _ _ _ _ _=>a
 | _=>{ posonlyargs:=[],args:=[],vararg:=none,kwonlyargs:=[],kw_defaults:=[],kwarg:=none,defaults:=[] }
def vY (s:Stmt):List Stmt:=match s with
 | .FunctionDef _ _ b _ _ _ _ _ _ _=>b
 | _=>[]
def zJ (s:Stmt):Scope:=match s with
 | .FunctionDef _ _ _ _ _ _ sc _ _ _=>sc
 | _=>{ kind:=.function,names:=[],isGenerator:=false,isCoroutine:=false }
abbrev CX0:CXT:=fun _ _ _ _ _ _=>False
abbrev E0:XK:=fun _ _ _=>False
theorem pass0 {X:Cx}:Passes CX0 X E0:=fun _ _ _ _ _ _ _ h=>h.elim
structure Fun (K:PySem.W.Frag)(x qual:Str)(st:Stmt)(f:Addr)(fd:FuncData):Prop where
 ex:∃ (oc:Value)(od:Option Addr)(kV doc pm:Value)(an:Option Addr)(cdv ct:Value)(osl:Array (Option Value)),
  fd=PySem.W.fnOf x qual (wA st) (vY st) (zJ st) .none kV doc pm an cdv ct∧K.lookup f=some ⟨oc,od,.func fd,osl⟩∧PySem.W.codeIn K cdv qual=true
 kp:PySem.W.keepIn K (.ref f)=true
section
variable {P:Program}{w:World}{K:PySem.W.Frag}{mg:Str→Option Value}{base:Heap}
theorem Fun.ok {x qual:Str}{st:Stmt}{f:Addr}{fd:FuncData}{N ps:List Str}{k:Nat}{sp:Sp}(F:Fun K x qual st f fd)(S:zR N ps (zJ st))(len:∀ vs H Q E,sp vs H Q E→vs.length=ps.length)
  (hbody:∀ (cdv:Value)(A:Around)(outer:List Env)(s:Shared)(H:Hp)(vs:List V)(Q:VK)(E:XK),zCu k (A.deeper (envOfC qual (zJ st) s.heap.objs.size f cdv))→sp vs H Q E →
   ∃ t,PSs (cxOf CX0 P w K mg base N qual (zJ st) f cdv A outer s H E).nox (vY st) t∧t { nx:=fun _ H'=>Q .non H',rt:=Q } (start N vs) H):FnOk P w K mg base CX0 (k+1) f fd ps sp:=by
 obtain⟨oc,od,kV,doc,pm,an,cdv,ct,osl,rfl,lk,hcd⟩:=F.ex
 refine fn_of lk hcd S len fun A outer s H vs Q E hr hsp=>?_
 obtain⟨t,h,q⟩:=hbody cdv A outer s H vs Q E hr hsp
 exact⟨t,h.nox,q⟩
theorem Fun.binds {x qual:Str}{st:Stmt}{f:Addr}{fd:FuncData}{ps:List Str}(F:Fun K x qual st f fd)
  (h:∀ (kV doc pm:Value)(an:Option Addr)(cdv ct:Value)(us:List Value),us.length=ps.length→bindArgs (PySem.W.fnOf x qual (wA st) (vY st) (zJ st) .none kV doc pm an cdv ct) ⟨us,[]⟩=pure (ps.zip us)):Binds K fd ps []:=by
 obtain⟨oc,od,kV,doc,pm,an,cdv,ct,osl,rfl,lk,hcd⟩:=F.ex
 exact .all (h kV doc pm an cdv ct)
theorem fun_mk {x qual:Str}{st:Stmt}{f:Addr}{oc:Value}{od an:Option Addr}{osl:Array (Option Value)}{kV doc pm cdv ct:Value}(l:K.lookup f=some ⟨oc,od,.func (PySem.W.fnOf x qual (wA st) (vY st) (zJ st) .none kV doc pm an cdv ct),osl⟩)
  (c:PySem.W.codeIn K cdv qual=true)(k:PySem.W.keepIn K (.ref f)=true):Fun K x qual st f (PySem.W.fnOf x qual (wA st) (vY st) (zJ st) .none kV doc pm an cdv ct):=⟨⟨oc,od,kV,doc,pm,an,cdv,ct,osl,rfl,l,c⟩,k⟩
end
section
variable {X:Cx}
theorem pv (i:Nat){x:Str}{pos:Pos}(hN:X.N[i]?=some x:=by rfl)(hv:Vis X.env.scope x:=by first | exact Or.inl rfl | exact Or.inr (Or.inl rfl) | exact Or.inr (Or.inr rfl))(hd:(x == ("__debug__":Str))=false:=by decide)
  (hcd:(x == ("__classdict__":Str))=false:=by decide):PE X (.Name x pos) (tVar i):=pe_var hN hv hd hcd
end
theorem iteF {A B:Prop}(h:B):if false=true then A else B:=by
 rw[if_neg Bool.false_ne_true]
 exact h
theorem iteT {A B:Prop}(h:A):if true=true then A else B:=by
 rw[if_pos rfl]
 exact h
theorem zCs {c A B:Prop} [Decidable c] (h1:c→A)(h2:¬ c→B):if c then A else B:=by
 by_cases h:c
 ·rw[if_pos h]
  exact h1 h
 ·rw[if_neg h]
  exact h2 h
theorem iteNS {c A B:Prop} [Decidable c] (hc:c)(h:B):if (!decide c)=true then A else B:=by
 rw[decide_eq_true hc]
 exact iteF h
def zN (H H':Hp):Prop:=∀ b o,H b=some o→H' b=some o
theorem zN.refl (H:Hp):zN H H:=fun _ _ h=>h
theorem zN.trans {H H1 H2:Hp}(a:zN H H1)(b:zN H1 H2):zN H H2:=fun c o h=>b c o (a c o h)
theorem zN.free {H H':Hp}(e:zN H H'){l:Addr}(h:H' l=Option.none):H l=Option.none:=by
 cases q:H l with
 | none=>rfl
 | some o =>
  rw[e l o q] at h
  cases h
theorem zN.seq {K:PySem.W.Frag}{H H':Hp}{a:Addr}{xs:List V}(e:zN H H')(h:SqL K H a xs):SqL K H' a xs:=by
 rcases h with (h | ⟨o,h⟩) | h
 ·exact .inl (.inl (e _ _ h))
 ·exact .inl (.inr ⟨o,e _ _ h⟩)
 ·exact .inr h
end L2
set_option maxHeartbeats 5000000
namespace L2
open PySem PySem.Spec PyProof.Rows
section
variable {A:Around}{prog:Program}{w:World}{s:Shared}{R:Result→Shared→Prop}
theorem zDs {el tgt src:Expr}{tests:List Expr}{sc:Scope}{ps:Pos}{itv ac:Value}{env:Env}(J:Nat→Shared→Prop)
  (trn:∀ k t,J k t→wpAny (model prog w) A (pyNext itv) (fun z t₁=>match z with
   | none=>R (.ok .next) t₁
   | some v=>wpAny (model prog w) A (letOwnedTupleGo tgt itv v) (fun _ t₁=>wpAny (model prog w) A (assign tgt env v) (fun _ t₂ =>
     wpAny (model prog w) A (forIn tests true fun tst go=>if go=true then do let yes ← isTrue tst env (eval tst env);pure (ForInStep.yield yes) else pure (ForInStep.yield go)) (fun yes t₃ =>
      if yes=true then wpAny (model prog w) A (eval el env) (fun x t₄ =>
       wpAny (model prog w) A (call (.builtin "list.append") [ac,x]) (fun _ t₅=>∃ m,m < k∧J m t₅) (fun _ _=>False) t₄) (fun _ _=>False) t₃
      else ∃ m,m < k∧J m t₃) (fun _ _=>False) t₂) (fun _ _=>False) t₁) (fun _ _=>False) t₁) (fun _ _=>False) t)
  (k:Nat)(h:J k s):codeAny (model prog w) A (.compLoop (.ListComp el [⟨tgt,src,tests,0⟩] sc ps) 0 itv ac env) R s:=by
 refine codeAny_loop rfl J (fun k t hJ=>?_) k h
 refine (wpAny_noted (m:=compTurn (.ListComp el [⟨tgt,src,tests,0⟩] sc ps) 0 itv ac env) ?_:wpAny _ A _ _ _ t)
 rw[compTurn_list]
 refine wpAny_bind (wpAny_standAt (wpAny_bind (wpAny_mono (trn k t hJ) (fun z t₁ q₁=>?_) fun _ _ f=>f.elim)))
 cases z with
 | none=>exact wpAny_pure q₁
 | some v =>
  refine wpAny_bind (wpAny_mono q₁ (fun _ t₁ q₁=>?_) fun _ _ f=>f.elim)
  refine wpAny_bind (wpAny_mono q₁ (fun _ t₂ q₂=>wpAny_bind (wpAny_mono q₂ (fun yes t₃ q₃=>?_) fun _ _ f=>f.elim)) fun _ _ f=>f.elim)
  cases yes with
  | false=>exact wpAny_pure (And.intro rfl q₃)
  | true =>
   exact wpAny_bind (wpAny_bind (wpAny_mono q₃ (fun x t₄ q₄=>wpAny_bind (wpAny_mono q₄ (fun _ t₅ q₅=>wpAny_pure (wpAny_pure ⟨rfl,q₅⟩)) fun _ _ f=>f.elim)) fun _ _ f=>f.elim))
end
theorem vK {cells:List (Str×Addr)}:∀ x c,([]:List (Str×Addr)).lookup x=some c→cells.lookup x=some c:=fun _ _ h=>by cases h
theorem zV {cells r:List (Str×Addr)}{k:Str}{a:Addr}(h1:cells.lookup k=some a)(h2:∀ x c,r.lookup x=some c→cells.lookup x=some c) :
  ∀ x c,((k,a)::r).lookup x=some c→cells.lookup x=some c:=fun x c h=>by
 rw[List.lookup_cons] at h
 cases e:x == k with
 | true =>
  rw[e] at h
  have:x=k:=by simpa using e
  subst this
  cases h
  exact h1
 | false =>
  rw[e] at h
  exact h2 x c h
theorem zDv {env:Env}:∀ {names:List (Str×NameKind)}{x:Str},(∀ y∈names,y.2≠.cell) →
    ((names.map fun (n,k)=>if (k == NameKind.free && env.scope.kind == .function && env.kindOf n == some .cell) then (n,NameKind.cell) else (n,k)).lookup x=some .cell ∨
     (names.map fun (n,k)=>if (k == NameKind.free && env.scope.kind == .function && env.kindOf n == some .cell) then (n,NameKind.cell) else (n,k)).lookup x=some .free)→(x,NameKind.free)∈names
  | [],x,_,h=>by simp at h
  | (n,k)::r,x,hc,h=>by
    have ih:=@zDv env r x (fun y hy=>hc y (List.mem_cons_of_mem _ hy))
    rw[List.map_cons] at h
    dsimp only at h
    by_cases c:(k == NameKind.free && env.scope.kind == .function && env.kindOf n == some .cell)=true
    · have hk:k=.free:=by
        have:=(Bool.and_eq_true_iff.mp (Bool.and_eq_true_iff.mp c).1).1
        cases k <;> first | rfl | (exact absurd this (by decide))
      rw[if_pos c,List.lookup_cons] at h
      cases e:x == n with
      | true =>
        have:x=n:=by simpa using e
        subst this;subst hk
        exact List.mem_cons_self
      | false =>
        rw[e] at h
        exact List.mem_cons_of_mem _ (ih h)
    · rw[if_neg c,List.lookup_cons] at h
      cases e:x == n with
      | true =>
        have:x=n:=by simpa using e
        subst this
        rw[e] at h
        rcases h with h | h
        · exact absurd (Option.some.inj h) (hc (x,k) List.mem_cons_self)
        · have:=Option.some.inj h
          subst this;exact List.mem_cons_self
      | false =>
        rw[e] at h
        exact List.mem_cons_of_mem _ (ih h)
theorem vI {names:List (Str×NameKind)}{cl:List (Str×Addr)}(h:names.all (fun y=>!(y.2 == NameKind.free) || (cl.lookup y.1).isSome)=true):∀ y∈names,y.2=.free→∃ c,cl.lookup y.1=some c:=fun y hy e=>by
 have q:=List.all_eq_true.mp h y hy
 rw[e] at q
 exact Option.isSome_iff_exists.mp (by simpa using q)
theorem vH {α:Type}{F:α→Prop}:∀ p∈([]:List α),F p:=fun _ h=>(nomatch h)
theorem zX {α:Type}{F:α→Prop}{p:α}{l:List α}(h:F p)(r:∀ q∈l,F q):∀ q∈p::l,F q:=fun q hq=>by
 rcases List.mem_cons.mp hq with e | e
 ·rw[e];exact h
 ·exact r q e
def zBo (X:Cx)(scope:Scope)(cl:List (Str×Addr))(N':List Str)(C:Addr)(s:Shared)(H:Hp)(fp:List Addr):Cx where
 prog:=X.prog
 w:=X.w
 K:=X.K
 mg:=X.mg
 base:=X.base
 A:=X.A
 N:=N'
 s₀:=s
 H₀:=H
 env:=compEnvC scope cl C X.env
 outer:=X.stack
 stack:=X.stack
 ex:=fp
 fn:=fun _=>false
 calm:=X.calm
 pn:=[]
 xe:=fun _ _=>False
def PTs (X:Cx)(ifs:List Expr)(t:TT):Prop :=
 ∀ (pins:List (Addr×Obj))(s:Shared)(σ:St)(H:Hp)(Q:Bool→Hp→Prop),Inv X pins σ H s→t σ H Q →
  wpAny (model X.prog X.w) X.A (forIn ifs true fun c r=>if r=true then do let ok ← isTrue c X.env (eval c X.env);pure (ForInStep.yield ok) else pure (ForInStep.yield r)) (TP X pins σ Q) X.xe s
def tYes:TT:=fun _ H Q=>Q true H
theorem vJ {X:Cx}:PTs X [] tYes:=fun _ _ _ H _ I h=>wpAny_tests_nil ⟨H,I,h⟩
def wK (cap:List (Str×Nat))(k:Nat)(σ:St):St:=cap.map (fun p=>(σ[p.2]?).join) ++ List.replicate k none
def jK (J:It)(g:TG)(tc:TT)(te:TE)(σ':St)(Q:VK)(H1:Hp):Prop :=
 ∃ W:Nat→Nat→List V→Hp→Prop,(∃ m,W 0 m [] H1)∧∀ i m ys H,W i m ys H →
  (J.stop i H∧∀ D,H D=none→Q (.ref D) (upd H D (.lst ys))) ∨
  (J.go i H∧ys.length < sizeLine∧∃ N:List V→Hp→Prop,(∀ ys' H',N ys' H'→∃ m',m' < m∧W (i+1) m' ys' H') ∧
   ∀ x H',J.yld i H x H'→g x σ' H' fun σ2 H2=>tc σ2 H2 fun b H3=>if b=true then te σ2 H3 fun y H4=>N (ys ++ [y]) H4 else N ys H3)
def tComp (cap:List (Str×Nat))(k:Nat)(wi:TI)(g:TG)(tc:TT)(te:TE):TE:=fun σ H Q=>wi σ H fun J H1=>jK J g tc te (wK cap k σ) Q H1
def zDt (n:Nat)(g:TG):Prop:=∀ x σ H Q,g x σ H Q→g x σ H fun σ2 H2=>(σ2.length=σ.length∧∀ j,j < n→σ2[j]?=σ[j]?)∧Q σ2 H2
theorem vB {n i:Nat}(h:n≤i):zDt n (jG i):=fun x σ H Q q=>⟨⟨by simp,fun j hj=>by rw[List.getElem?_set_ne (by omega)]⟩,q⟩
abbrev zFv (us:List Value):Obj:={ cls:=.type "list",data:=.seq us.toArray us.length }
structure Fin (X:Cx)(pins:List (Addr×Obj))(H:Hp)(s:Shared)(C:Addr):Prop where
 none:H C=Option.none
 loc:C≠X.env.locals
 sz:X.s₀.heap.objs.size≤C
 cel:∀ x c,X.env.cells.lookup x=some c→c≠C
 pin:∀ p∈X.pn ++ pins,p.1≠C
 ns:∃ m,s.heap.Ns C m
theorem Fin.go {X:Cx}{pins:List (Addr×Obj)}{σ:St}{H:Hp}{s:Shared}{C:Addr}(f:Fin X pins H s C)(I:Inv X pins σ H s){h':Heap}(sb:Heap.SameBut C s.heap h'):Inv X pins σ H { s with heap:=h' } :=
 I.turned (t':=s.toks) (it:=C) (fun b o hb e=>(sb.2 b hb).trans e) f.none f.loc (.inr f.sz) f.cel f.pin
theorem comp_core {X:Cx}{elt iter tg:Expr}{ifs:List Expr}{scope:Scope}{pos pos':Pos}{cl:List (Str×Addr)}{cap:List (Str×Nat)}{tgs:List Str}{wi:TI}{g:TG}{tc:TT}{te:TE}
  (hc:X.calm=true)(hclos:closureFor scope X.env=pure cl)(hkind:scope.kind=.function)
  (hnames:∀ x∈scope.names,x.2=.local→scope.names.lookup x.1=some .local)(hcell:∀ y∈scope.names,y.2≠.cell)
  (hfree:∀ y∈scope.names,y.2=.free→∃ c,cl.lookup y.1=some c)
  (hsub:∀ x c,cl.lookup x=some c→X.env.cells.lookup x=some c)
  (hcap:∀ p∈cap,X.N[p.2]?=some p.1∧(X.env.kindOf p.1=some .cell∨X.env.kindOf p.1=some .free)∧((relabel scope X.env).names.lookup p.1=some .cell∨(relabel scope X.env).names.lookup p.1=some .free)∧∃ c,cl.lookup p.1=some c)
  (hl:zDt cap.length g)(hi:PI X tg iter wi)
  (hb:∀ C s H fp,PG (zBo X scope cl (cap.map (·.1) ++ tgs) C s H fp) tg g∧PTs (zBo X scope cl (cap.map (·.1) ++ tgs) C s H fp) ifs tc∧PE (zBo X scope cl (cap.map (·.1) ++ tgs) C s H fp) elt te)
  (hs:∀ x,foldedSetIterable iter X.env x=pure x)
  {pins:List (Addr×Obj)}{s:Shared}{σ:St}{H:Hp}{Q:VK}{Qp:Value→Shared→Prop}{use:Option (Value→Sem Unit)}(I:Inv X pins σ H s)(h:tComp cap tgs.length wi g tc te σ H Q)
  (fin:∀ D C H' s',Inv X pins σ H' s'→Fin X pins H' s' C→Q (.ref D) H'→compPost (model X.prog X.w) X.A X.xe use Qp (.ref D) C (.ok .next) s') :
  wpAny (model X.prog X.w) X.A (comprehension (.ListComp elt [⟨tg,iter,ifs,0⟩] scope pos) scope X.env pos' (newList []) false (eval iter X.env) use) Qp X.xe s:=by
 refine wpAny_comprehension_free (g:=⟨tg,iter,ifs,0⟩) (gs:=[]) rfl hs hclos hkind hnames ?_
 refine thn (hi pins s σ H _ I h) fun v s1 h1=>thn h1 fun itv s2 h2=>?_
 obtain⟨it,fp,tn,J,H2,e,I2,T,st2,f2,W,⟨m0,w0⟩,turn⟩:=h2
 subst e
 refine wpAny_newObj_type (wpAny_newFunctionEnv hcell (fun y hy=>(by simp at hy)) (fun h₁ hns₁ hsb₁=>?_) hkind)
 dsimp only at hns₁ hsb₁ ⊢
 generalize hH2:s2.heap.push { cls:=.type "list",dict:=none,data:=.seq ([]:List Value).toArray }=HH at hns₁ hsb₁ ⊢
 have hC:HH.objs.size=s2.heap.objs.size+1:=by rw[← hH2,Heap.size_push]
 have hDC:s2.heap.objs.size≠HH.objs.size:=by rw[hC];exact Nat.ne_of_lt (Nat.lt_succ_self _)
 have below:∀ b,b < s2.heap.objs.size→b≠HH.objs.size∧b≠s2.heap.objs.size:=fun b hb=>⟨by rw[hC];exact Nat.ne_of_lt (Nat.lt_succ_of_lt hb),Nat.ne_of_lt hb⟩
 have old:∀ b o,s2.heap.get? b=some o→h₁.get? b=some o:=fun b o e=>hsb₁.extBut b o (below b (Heap.lt_size e)).1 (Heap.get?_push_of_some _ (hH2▸Heap.get?_push_of_some _ e))
 have hacc:h₁.get? s2.heap.objs.size=some (zFv []):=hsb₁.extBut _ _ hDC (Heap.get?_push_of_some _ (hH2▸Heap.get?_push_size _ rfl))
 have fpold:∀ b∈fp,b < s2.heap.objs.size:=fun b hb=>let ⟨o,e,_⟩:=T.obj _ _ st2 b hb;Heap.lt_size e
 have celo:∀ x c,cl.lookup x=some c→c < s2.heap.objs.size:=fun x c e=>let ⟨v,q⟩:=I2.cell x c (hsub x c e);q.lt
 have frold:∀ b∈frs X.stack,b < s2.heap.objs.size:=fun b hb=>by
  obtain⟨_,o,ho,_⟩:=I2.stack.mem hb
  exact Heap.lt_size ho
 generalize hX:zBo X scope cl (cap.map (·.1) ++ tgs) HH.objs.size s2 H2 fp=X'
 have ok':X'.Ok:=by
  subst hX
  refine { mod:=I2.ok.mod,kind:=hkind,glob:=I2.ok.glob,blt:=I2.ok.blt,above:=?_,inj:=fun x y c a b=>I2.ok.inj x y c (hsub x c a) (hsub y c b),has:=?_,cab:=fun x c h=>(nomatch h),hd:=I2.ok.hd,frames:=I2.ok.frames,stk:=.inl rfl,exf:=?_,bs:=I2.bs,bsz:=Nat.le_trans I2.ok.bsz I2.sz,noex:=?_,exfs:=?_,funs:=I2.stack,frf:=I2.stkFree }
  ·show s2.heap.objs.size≤HH.objs.size
   rw[hC];exact Nat.le_succ _
  ·intro x hx
   exact hfree (x,.free) (zDv hcell hx) rfl
  ·intro b hb
   exact⟨(below b (fpold b hb)).1,fun x c e=>(f2 b hb).2.2.2.2.1 x c (hsub x c e)⟩
  ·intro b o e hb
   rcases (f2 b hb).2.2.2.1 with z | z
   ·exact I2.ok.noex b o e z
   ·exact absurd (Nat.lt_of_lt_of_le (Heap.lt_size (I2.ok.bs b o e).1) z) (Nat.lt_irrefl _)
  ·intro b hb hm
   rcases List.mem_cons.mp (I2.stkSub b hm) with z | z
   ·exact (f2 b hb).2.1 z
   ·exact (f2 b hb).2.2.1 z
 have Inv0:Inv X' [(s2.heap.objs.size,zFv [])] (wK cap tgs.length σ) H2 { s2 with heap:=h₁,toks:=s2.toks+([]:List (Str×Value)).length }:=by
  subst hX
  refine⟨ok',rfl,I2.bare,Un.kept old,⟨_,hns₁,?_⟩,fun x c e=>?_,I2.hok.fresh (by rw[hC];exact Nat.le_succ _),fun x c e=>I2.freeC x c (hsub x c e),fun p hp=>?_,I2.hok.kept old,?_⟩
  ·intro j y v e1 e2 e3
   have e1':(cap.map (·.1) ++ tgs)[j]?=some y:=e1
   by_cases hj:j < cap.length
   ·unfold wK at e2
    rw[List.getElem?_append_left (by simpa using hj),List.getElem?_map] at e2
    rw[List.getElem?_append_left (by simpa using hj),List.getElem?_map] at e1'
    rw[List.getElem?_eq_getElem hj] at e1' e2
    have ey:cap[j].1=y:=by simpa using e1'
    have ev:(σ[cap[j].2]?).join=some v:=by simpa using e2
    obtain⟨c1,c2,c3,c,c4⟩:=hcap cap[j] (List.getElem_mem hj)
    have ev':σ[cap[j].2]?=some (some v):=by
     cases q:σ[cap[j].2]? with
     | none=>rw[q] at ev;cases ev
     | some z=>rw[q] at ev;exact congrArg some ev
    rw[ey] at c1 c2 c3 c4
    obtain⟨m,hn,hl'⟩:=I2.loc
    have vis:Vis X.env.scope y:=by
     rcases c2 with c2 | c2
     ·exact .inr (.inl c2)
     ·exact .inr (.inr c2)
    obtain⟨u,ru,lu⟩:=hl' _ y v c1 ev' vis
    refine⟨u,ru,.inr ⟨c3,c,c4,?_⟩⟩
    rcases lu with ⟨k,_⟩ | ⟨_,c',e',q⟩
    ·rcases c2 with c2 | c2 <;> (rw[k] at c2;cases c2)
    ·rw[hsub y c c4] at e'
     cases e'
     obtain⟨o,ho,hd⟩:=q
     exact⟨o,old _ _ ho,hd⟩
   ·unfold wK at e2
    rw[List.getElem?_append_right (by simpa using hj),List.getElem?_replicate] at e2
    split at e2 <;> cases e2
  ·obtain⟨v,o,ho,hd⟩:=I2.cell x c (hsub x c e)
   exact⟨v,o,old _ _ ho,hd⟩
  ·have hp':p∈([(s2.heap.objs.size,zFv [])]:List (Addr×Obj)):=hp
   obtain rfl:=List.mem_singleton.mp hp'
   refine⟨hacc,I2.hok.fresh (Nat.le_refl _),hDC,fun z=>Nat.lt_irrefl _ (frold _ z),fun v z=>?_⟩
   have z':Data.seq _ _=Data.cell v:=z
   cases z'
  ·show (wK cap tgs.length σ).length=(cap.map (·.1) ++ tgs).length
   unfold wK
   simp
 have fpX:∀ {us:List Value}{H':Hp},(∀ b∈fp,H' b=none)→∀ b∈fp,FpOk X' [(s2.heap.objs.size,zFv us)] H' b:=by
  subst hX
  intro us H' hn b hb
  refine⟨hn b hb,(below b (fpold b hb)).1,fun z=>ok'.exfs b hb z,.inl hb,fun x c e=>(f2 b hb).2.2.2.2.1 x c (hsub x c e),fun p hp=>?_⟩
  have hp':p∈([(s2.heap.objs.size,zFv us)]:List (Addr×Obj)):=hp
  obtain rfl:=List.mem_singleton.mp hp'
  exact Ne.symm (below b (fpold b hb)).2
 have eP:X'.prog=X.prog:=by subst hX;rfl
 have eW:X'.w=X.w:=by subst hX;rfl
 have eK:X'.K=X.K:=by subst hX;rfl
 have eA:X'.A=X.A:=by subst hX;rfl
 have eE:X'.env=compEnvC scope cl HH.objs.size X.env:=by subst hX;rfl
 have eF:X'.fs=frs X.stack:=by subst hX;rfl
 have eX:X'.ex=fp:=by subst hX;rfl
 have eH:X'.H₀=H2:=by subst hX;rfl
 have eS:X'.s₀=s2:=by subst hX;rfl
 have ec:X'.calm=true:=by subst hX;exact hc
 have epn:X'.pn=[]:=by subst hX;rfl
 have exe:X'.xe=fun _ _=>False:=by subst hX;rfl
 obtain⟨hg,ht,he⟩:PG X' tg g∧PTs X' ifs tc∧PE X' elt te:=by subst hX;exact hb _ _ _ _
 have loop:codeAny (model X.prog X.w) X.A (.compLoop (.ListComp elt [⟨tg,iter,ifs,0⟩] scope pos) 0 (.ref it) (.ref s2.heap.objs.size) (compEnvC scope cl HH.objs.size X.env))
   (compPost (model X.prog X.w) X.A X.xe use Qp (.ref s2.heap.objs.size) HH.objs.size) { s2 with heap:=h₁,toks:=s2.toks+([]:List (Str×Value)).length }:=by
  refine zDs (fun n s'=>∃ i ys us H',Inv X' [(s2.heap.objs.size,zFv us)] (wK cap tgs.length σ) H' s'∧Vals ys us∧ys.length≤sizeLine∧tn i s'.heap∧(∀ b∈fp,H' b=none)∧W i n ys H') ?_ m0
   ⟨0,[],[],H2,Inv0,.nil,Nat.zero_le _,T.keep _ _ _ st2 fun b _ o e=>old b o e,fun b hb=>(f2 b hb).1,w0⟩
  rintro n s3 ⟨i,ys,us,H3,I3,rv,hz,st3,fr3,w3⟩
  rcases turn i n ys H3 w3 with ⟨stop,qn⟩ | ⟨go,hlen,N,hN,step⟩
  ·have d:=T.done X' eP eW eK ec i _ s3 _ H3 (fun _ _=>False) I3 (fpX fr3) st3 stop
   rw[eA] at d
   refine thn d fun r s4 ⟨hr,I4⟩=>?_
   subst hr
   obtain⟨m,hn,_⟩:=id I4.loc
   rw[eE] at hn
   have pD:=I4.pin (s2.heap.objs.size,zFv us) (by rw[epn];simp)
   have fC:H3 HH.objs.size=none:=by have:=I4.free;rw[eE] at this;exact this
   have un:=I4.base
   rw[eF,eX,eH,eS] at un
   have nD:∀ b o,s2.heap.get? b=some o→b≠s2.heap.objs.size:=fun b o e=>(below b (Heap.lt_size e)).2
   have fD2:H2 s2.heap.objs.size=none:=I2.hok.fresh (Nat.le_refl _)
   have leC:s2.heap.objs.size≤HH.objs.size:=by rw[hC];exact Nat.le_succ _
   refine fin s2.heap.objs.size HH.objs.size (upd H3 s2.heap.objs.size (.lst ys)) s4 (I2.call' (ch:=fp) ?_ ?_ ?_ I4.bare ?_)
    ⟨by rw[vA (Ne.symm hDC)];exact fC,Ne.symm (below _ I2.lt).1,Nat.le_trans I2.sz leC,fun x c e=>?_,fun p hp=>(below _ (Heap.lt_size (I2.pin p hp).1)).1,⟨m,hn⟩⟩ (qn _ pD.2.1)
   ·have:=I4.os;rw[eS] at this;exact this
   ·refine⟨un.keep,un.slot,fun b o e n hx=>?_,un.there,fun b xs q=>?_,fun b o u q=>?_,fun b ps q=>?_⟩
    ·rw[vA (nD b o e)];exact un.free b o e n hx
    ·rw[vA (zY q fD2)];exact un.tups b xs q
    ·rw[vA (zY q fD2)];exact un.frzs b o u q
    ·rw[vA (zY q fD2)];exact un.tbls b ps q
   ·have hok:=I4.hok
    rw[eP,eW] at hok
    intro b u e
    by_cases hb:b=s2.heap.objs.size
    ·subst hb
     rw[zD] at e
     cases e
     exact⟨hz,us,us.length,rv,pD.1⟩
    ·rw[vA hb] at e
     exact (hok b u e).stay (fun c v hcc q=>q) (fun c q=>by rw[vA (zY q pD.2.1)];exact q) fun c xs q=>by rw[vA (zY q pD.2.1)];exact q
   ·exact fun b hb=>⟨(f2 b hb).2.2.2.1,(f2 b hb).2.1,(f2 b hb).2.2.2.2.1,(f2 b hb).2.2.2.2.2⟩
   ·obtain⟨v,q⟩:=I2.cell x c e
    exact (below c q.lt).1
  ·have d:=T.item X' eP eW eK ec i _ s3 _ H3 (fun _ _=>False) I3 (fpX fr3) st3 go
   rw[eA] at d
   refine thn d fun r s4 ⟨u,hr,h4⟩=>?_
   subst hr
   refine thn h4 fun _ s5 ⟨x,H5,I5,r5,y5,st5,fr5⟩=>?_
   have I5':=I5.pinned (fpX fr5) (T.obj _ _ st5)
   have a6:=hg _ s5 _ H5 x u _ I5' r5 (hl x _ H5 _ (step x H5 y5))
   rw[eP,eW,eA,eE,exe] at a6
   refine thn a6 fun _ s6 ⟨σ6,H6,I6,⟨kl,kj⟩,q6⟩=>?_
   have a7:=ht _ s6 σ6 H6 _ I6 q6
   rw[eP,eW,eA,eE,exe] at a7
   refine thn a7 fun ok s7 ⟨H7,I7,q7⟩=>?_
   have wk:∀ {pl:List (Addr×Obj)}{H':Hp}{s':Shared},Inv X' pl σ6 H' s'→Inv X' [] (wK cap tgs.length σ) H' s':=fun {pl H' s'} I' =>
    (I'.weak kl.symm fun j v e=>by
     by_cases hj:j < cap.length
     ·rw[kj j hj];exact e
     ·unfold wK at e
      rw[List.getElem?_append_right (by simpa using hj),List.getElem?_replicate] at e
      split at e <;> cases e).zAo fun p hp=>(nomatch hp)
   have keepI:∀ {H':Hp}{s':Shared},Inv X' ([(s2.heap.objs.size,zFv us)] ++ zGs fp s5.heap) σ6 H' s'→(∀ b∈fp,∀ o,s5.heap.get? b=some o→s'.heap.get? b=some o∧H' b=none):=fun {H' s'} I' b hb o e=>by
    have z:=I'.pin (b,o) (by rw[epn];exact List.mem_append_right _ (List.mem_append_right _ (zBc hb e)))
    exact⟨z.1,z.2.1⟩
   cases ok with
   | false =>
    have q7':N ys H7:=q7
    obtain⟨m',hm,w7⟩:=hN _ _ q7'
    have pD:=I7.pin (s2.heap.objs.size,zFv us) (by rw[epn];simp)
    refine⟨m',hm,i+1,ys,us,H7,?_,rv,hz,T.keep _ _ _ st5 fun b hb o e=>(keepI I7 b hb o e).1,fun b hb=>?_,w7⟩
    ·exact (wk I7).zAo fun p hp=>by
      cases List.mem_singleton.mp hp
      exact pD
    ·obtain⟨o,e,_⟩:=T.obj _ _ st5 b hb
     exact (keepI I7 b hb o e).2
   | true =>
    have a8:=he _ s7 σ6 H7 _ I7 q7
    rw[eP,eW,eA,eE,exe] at a8
    refine thn a8 fun uy s8 ⟨y,H8,I8,ry,q8⟩=>?_
    obtain⟨m',hm,w8⟩:=hN _ _ q8
    have pD:=I8.pin (s2.heap.objs.size,zFv us) (by rw[epn];simp)
    refine append_at (hsz:=by show us.toArray.size≤sizeLine;rw[List.size_toArray,← rv.length];exact hz) pD.1 fun h9 hs9 hD9=>?_
    have fpD:∀ b∈fp,b≠s2.heap.objs.size:=fun b hb=>(below b (fpold b hb)).2
    have I9:Inv X' [] (wK cap tgs.length σ) H8 { s8 with heap:=h9 }:=(wk I8).turned (t':=s8.toks) (it:=s2.heap.objs.size) (fun b o hb e=>(hs9.2 b hb).trans e) pD.2.1 pD.2.2.1 (.inr (by rw[eS];exact Nat.le_refl _))
     (fun x c e z=>by
      rw[eE] at e
      exact absurd (celo x c e) (by rw[z];exact Nat.lt_irrefl _)) (fun p hp=>by rw[epn] at hp;exact (nomatch hp))
    refine⟨m',hm,i+1,ys ++ [y],us ++ [uy],H8,?_,rv.append (.cons ry .nil),by rw[List.length_append,List.length_singleton];exact hlen,T.keep _ _ _ st5 fun b hb o e=>(hs9.2 b (fpD b hb)).trans (keepI I8 b hb o e).1,fun b hb=>?_,w8⟩
    ·refine I9.zAo fun p hp=>?_
     cases List.mem_singleton.mp hp
     refine⟨?_,pD.2.1,pD.2.2.1,pD.2.2.2.1,fun v z=>?_⟩
     ·show h9.get? _=some (zFv (us ++ [uy]))
      rw[hD9]
      show some ({ cls:=.type "list",data:=.seq (us.toArray.push uy) (us.length+1) }:Obj)=some { cls:=.type "list",data:=.seq (us ++ [uy]).toArray (us ++ [uy]).length }
      rw[List.push_toArray,List.length_append,List.length_singleton]
     ·have z':Data.seq _ _=Data.cell v:=z
      cases z'
    ·obtain⟨o,e,_⟩:=T.obj _ _ st5 b hb
     exact (keepI I8 b hb o e).2
 exact codeAny_compStart_list loop (T.self _ 0 _ _ _ (T.keep _ _ _ st2 fun b _ o e=>old b o e) loop)
theorem zZ {X:Cx}{elt iter tg:Expr}{ifs:List Expr}{scope:Scope}{pos:Pos}{cl:List (Str×Addr)}{cap:List (Str×Nat)}{tgs:List Str}{wi:TI}{g:TG}{tc:TT}{te:TE}
  (hc:X.calm=true)(hclos:closureFor scope X.env=pure cl)(hkind:scope.kind=.function)
  (hnames:∀ x∈scope.names,x.2=.local→scope.names.lookup x.1=some .local)(hcell:∀ y∈scope.names,y.2≠.cell)
  (hfree:∀ y∈scope.names,y.2=.free→∃ c,cl.lookup y.1=some c)
  (hsub:∀ x c,cl.lookup x=some c→X.env.cells.lookup x=some c)
  (hcap:∀ p∈cap,X.N[p.2]?=some p.1∧(X.env.kindOf p.1=some .cell∨X.env.kindOf p.1=some .free)∧((relabel scope X.env).names.lookup p.1=some .cell∨(relabel scope X.env).names.lookup p.1=some .free)∧∃ c,cl.lookup p.1=some c)
  (hl:zDt cap.length g)(hi:PI X tg iter wi)
  (hb:∀ C s H fp,PG (zBo X scope cl (cap.map (·.1) ++ tgs) C s H fp) tg g∧PTs (zBo X scope cl (cap.map (·.1) ++ tgs) C s H fp) ifs tc∧PE (zBo X scope cl (cap.map (·.1) ++ tgs) C s H fp) elt te)
  (hs:∀ x,foldedSetIterable iter X.env x=pure x:=by intro _;rfl) :
  PE X (.ListComp elt [⟨tg,iter,ifs,0⟩] scope pos) (tComp cap tgs.length wi g tc te):=by
 intro pins s σ H Q I h
 rw[eval_ListComp]
 refine comp_core hc hclos hkind hnames hcell hfree hsub hcap hl hi hb hs I h fun D C H' s' I' f q=>?_
 obtain⟨m,hn⟩:=f.ns
 exact⟨m,hn,fun h' sb=>⟨.ref D,H',f.go I' sb,rfl,q⟩⟩
theorem v8 {X:Cx}{elt iter tg:Expr}{ifs:List Expr}{scope:Scope}{pos py spos:Pos}{y:Str}{i:Nat}{cl:List (Str×Addr)}{cap:List (Str×Nat)}{tgs:List Str}{wi:TI}{g:TG}{tc:TT}{te:TE}
  (hN:X.N.Nodup)(hiy:X.N[i]?=some y)(hy:Loc X.env.scope y)
  (hc:X.calm=true)(hclos:closureFor scope X.env=pure cl)(hkind:scope.kind=.function)
  (hnames:∀ x∈scope.names,x.2=.local→scope.names.lookup x.1=some .local)(hcell:∀ y∈scope.names,y.2≠.cell)
  (hfree:∀ y∈scope.names,y.2=.free→∃ c,cl.lookup y.1=some c)
  (hsub:∀ x c,cl.lookup x=some c→X.env.cells.lookup x=some c)
  (hcap:∀ p∈cap,X.N[p.2]?=some p.1∧(X.env.kindOf p.1=some .cell∨X.env.kindOf p.1=some .free)∧((relabel scope X.env).names.lookup p.1=some .cell∨(relabel scope X.env).names.lookup p.1=some .free)∧∃ c,cl.lookup p.1=some c)
  (hl:zDt cap.length g)(hi:PI X tg iter wi)
  (hb:∀ C s H fp,PG (zBo X scope cl (cap.map (·.1) ++ tgs) C s H fp) tg g∧PTs (zBo X scope cl (cap.map (·.1) ++ tgs) C s H fp) ifs tc∧PE (zBo X scope cl (cap.map (·.1) ++ tgs) C s H fp) elt te)
  (hs:∀ x,foldedSetIterable iter X.env x=pure x:=by intro _;rfl)
  (hsw:swapsWith (.ListComp elt [⟨tg,iter,ifs,0⟩] scope pos) (some (.Name y py)) spos.line X.env=pure true:=by rfl)
  (hf:X.fn y=true∨X.env.scope.names.lookup y=some .local:=by first | exact .inl rfl | exact .inr rfl | assumption) :
  PS X (.Assign [.Name y py] (.ListComp elt [⟨tg,iter,ifs,0⟩] scope pos) spos) (tAsg (tComp cap tgs.length wi g tc te) (jG i)):=by
 intro pins s σ H D I h
 rw[exec_Assign_Name_used _ _ _ _ hsw];refine wpAny_bind (wpAny_standAt (wpAny_bind ?_))
 show wpAny _ X.A (do let _ ← comprehension (.ListComp elt [⟨tg,iter,ifs,0⟩] scope pos) scope X.env _ (newList []) false (eval iter X.env) (some (assign (.Name y py) X.env))) _ _ s
 refine wpAny_bind (wpAny_mono (comp_core (use:=some (assign (.Name y py) X.env)) (Qp:=fun _ s'=>SP X pins D .next s') hc hclos hkind hnames hcell hfree hsub hcap hl hi hb hs I h fun D' C H' s' I' f q=>?_) (fun _ s' hq=>wpAny_pure (wpAny_pure hq)) fun _ _ e=>e)
 show wpAny _ X.A (assign (.Name y py) X.env (.ref D')) _ _ _
 refine wpAny_assign_Name (zEz I' hN hiy hy (v:=.ref D') rfl (fun s'' I'' ⟨a,sa,ha⟩=>?_) hf)
 obtain⟨m,hn⟩:=f.ns
 have hCa:C≠a:=by
  rcases ha with z | z
  ·rw[z];exact f.loc
  ·exact Ne.symm (f.cel _ _ z)
 have f'':Fin X pins H' s'' C:=⟨f.none,f.loc,f.sz,f.cel,f.pin,⟨m,hn.sameBut sa hCa⟩⟩
 exact⟨m,hn.sameBut sa hCa,fun h' sb=>⟨_,H',f''.go I'' sb,q⟩⟩
theorem zCk {K:PySem.W.Frag}{a:Addr}{xs:List V}{g:TG}{tc:TT}{te:TE}{σ':St}{H:Hp}{Q:VK}(Pv:Nat→List V→Hp→Prop)(h0:Pv 0 [] H)(hl:∀ i ys H,i≤xs.length→Pv i ys H→SqL K H a xs)(hz:∀ i ys H,i < xs.length→Pv i ys H→ys.length < sizeLine)
  (hs:∀ i x ys H,xs[i]?=some x→Pv i ys H→g x σ' H fun σ2 H2=>tc σ2 H2 fun b H3=>if b=true then te σ2 H3 fun y H4=>Pv (i+1) (ys ++ [y]) H4 else Pv (i+1) ys H3)(hd:∀ ys H,Pv xs.length ys H→∀ D,H D=none→Q (.ref D) (upd H D (.lst ys))) :
  jK (Itl K a) g tc te σ' Q H:=by
 refine⟨fun i m ys H=>m=xs.length-i∧i≤xs.length∧Pv i ys H,⟨xs.length,by simp,Nat.zero_le _,h0⟩,?_⟩
 rintro i m ys H ⟨rfl,hi,p⟩
 have q:=hl i ys H hi p
 by_cases hlt:i < xs.length
 ·refine .inr ⟨⟨xs,xs[i],q,by simp [hlt]⟩,hz i ys H hlt p,Pv (i+1),fun ys' H' p'=>⟨xs.length-(i+1),by omega,rfl,hlt,p'⟩,fun x H' y=>?_⟩
  obtain⟨e,y⟩:=y
  subst e
  exact hs i x ys _ (y xs q) p
 ·have e:i=xs.length:=by omega
  subst e
  exact .inl ⟨⟨xs,q,Nat.le_refl _⟩,hd ys H p⟩
theorem zGo {lo:Int}{n:Nat}{g:TG}{tc:TT}{te:TE}{σ':St}{H:Hp}{Q:VK}(Pv:Nat→List V→Hp→Prop)(h0:Pv 0 [] H)(hz:∀ i ys H,i < n→Pv i ys H→ys.length < sizeLine)
  (hs:∀ i ys H,i < n→Pv i ys H→g (.int (lo+i)) σ' H fun σ2 H2=>tc σ2 H2 fun b H3=>if b=true then te σ2 H3 fun y H4=>Pv (i+1) (ys ++ [y]) H4 else Pv (i+1) ys H3)(hd:∀ ys H,Pv n ys H→∀ D,H D=none→Q (.ref D) (upd H D (.lst ys))) :
  jK (Itr lo n) g tc te σ' Q H:=by
 refine⟨fun i m ys H=>m=n-i∧i≤n∧Pv i ys H,⟨n,by simp,Nat.zero_le _,h0⟩,?_⟩
 rintro i m ys H ⟨rfl,hi,p⟩
 by_cases hlt:i < n
 ·refine .inr ⟨hlt,hz i ys H hlt p,Pv (i+1),fun ys' H' p'=>⟨n-(i+1),by omega,rfl,hlt,p'⟩,fun x H' y=>?_⟩
  obtain⟨e,y⟩:=y
  subst e y
  exact hs i ys _ hlt p
 ·have e:i=n:=by omega
  subst e
  exact .inl ⟨Nat.le_refl _,hd ys H p⟩
end L2
namespace L2
open PySem PySem.Spec PyProof.Rows
section
variable {X:Cx}
theorem vG:OpR X (binaryOp .Mult) (rI IntMulOk fun i j=>.int (i*j)):=opI fun _ _ _ _ _ _ _ hc q=>mul_int q hc
def CDivB (i j:Int):Prop:=0 < j∧j.natAbs.log2 < 9000
theorem vO:OpR X (binaryOp .FloorDiv) (rI CDivB fun i j=>.int (i/j)):=opI fun i j _ _ _ _ _ hc q=>by
 have e:i/j=i.fdiv j:=(Int.fdiv_eq_ediv_of_nonneg i (Int.le_of_lt hc.1)).symm
 rw[e] at q
 exact floordiv_int (Int.ne_of_gt hc.1) q (.inl (PyProof.noPylong_of_log2 hc.2))
theorem zAe:zEb X (.builtin "isinstance") (fun xs H Q=>∃ x T t b,xs=[x,.ty T]∧TyOf X.K H x t∧PySem.W.kitOne X.K t (.type T)=some b∧Q (.bl b) H):=by
 intro pins s σ H xs us Q I r h
 obtain⟨x,T,t,b,rfl,ty,e,q⟩:=h
 obtain⟨u,w',rfl,rx,rw'⟩:=vals2 r
 have ew:w'=Value.type T:=rw'
 subst ew
 exact isinst_ok I rx ty e fun tk=>⟨.bl b,H,I.tok tk,rfl,q⟩
end
theorem wY:bootBuiltins "isinstance"=some (.builtin "isinstance"):=by decide +kernel
theorem zEj:bootBuiltins "abs"=some (.builtin "abs"):=by decide +kernel
theorem v6:bootBuiltins "len"=some (.builtin "len"):=by decide +kernel
theorem bi_sum:bootBuiltins "sum"=some (.builtin "sum"):=by decide +kernel
theorem bi_int:bootBuiltins "int"=some (.type "int"):=by decide +kernel
theorem bi_bool:bootBuiltins "bool"=some (.type "bool"):=by decide +kernel
theorem bi_list:bootBuiltins "list"=some (.type "list"):=by decide +kernel
theorem bi_tuple:bootBuiltins "tuple"=some (.type "tuple"):=by decide +kernel
def tMid (t u:TS):TS:=fun D σ H=>∃ M:St→Hp→Prop,t { D with nx:=M } σ H∧∀ σ' H',M σ' H'→u D σ' H'
theorem pss_mid {X:Cx}{st:Stmt}{rest:List Stmt}{t u:TS}(h1:PS X st t)(h2:PSs X rest u):PSs X (st::rest) (tMid t u):=by
 intro pins s σ H D I h
 obtain⟨M,ht,hu⟩:=h
 refine wpAny_execs_cons (thn (h1 pins s σ H { D with nx:=M } I ht) fun f s1 q=>?_)
 cases f with
 | next =>
  obtain⟨σ',H',I',q⟩:=q
  exact h2 pins s1 σ' H' D I' (hu σ' H' q)
 | ret v=>exact q
 | brk=>exact q
 | cont=>exact q
structure Df (P:Program)(w:World)(K:PySem.W.Frag)(mg:Str→Option Value)(base:Heap)(k:Nat)(x:Str)(ps:List Str)(sp:Sp):Prop where
 ex:∃ (f:Addr)(fd:FuncData),FnOk P w K mg base CX0 k f fd ps sp∧Binds K fd ps []∧PySem.W.keepIn K (.ref f)=true∧mg x=some (.ref f)
section
variable {X:Cx}{k:Nat}{x:Str}{ps:List Str}{sp:Sp}{e:Expr}{es:List Expr}{t:TA}{p pos:Pos}
theorem zQ (D:Df X.prog X.w X.K X.mg X.base k x ps sp)(hr:zCu k X.A)(hg:Gl X x)(ha:PA X (e::es) t)(hdb:(x == ("__debug__":Str))=false:=by decide)
  (he:starEach (e::es) X.env=(false,eval e X.env)::starEach es X.env:=by rfl)(hpl:(backTo pos (starEach es X.env)).any (·.1)=false:=by rfl) :
  PE X (.Call (.Name x p) (e::es) [] pos) (tCall sp [] E0 t):=by
 obtain⟨f,fd,F,hb,hk,hm⟩:=D.ex
 exact pe_call F hr hg hm hk hb .nil pass0 ha hdb he hpl
end
structure Dn (K:PySem.W.Frag)(mg:Str→Option Value)(x:Str)(st:Stmt)(ps:List Str):Prop where
 ex:∃ (f:Addr)(fd:FuncData),Fun K x x st f fd∧Binds K fd ps []∧mg x=some (.ref f)
theorem Dn.ok {P:Program}{w:World}{K:PySem.W.Frag}{mg:Str→Option Value}{base:Heap}{x:Str}{st:Stmt}{N ps:List Str}{k:Nat}{sp:Sp}(D:Dn K mg x st ps)(S:zR N ps (zJ st))(len:∀ vs H Q E,sp vs H Q E→vs.length=ps.length)
  (hbody:∀ (f:Addr)(cdv:Value)(A:Around)(outer:List Env)(s:Shared)(H:Hp)(vs:List V)(Q:VK)(E:XK),zCu k (A.deeper (envOfC x (zJ st) s.heap.objs.size f cdv))→sp vs H Q E →
   ∃ t,PSs (cxOf CX0 P w K mg base N x (zJ st) f cdv A outer s H E).nox (vY st) t∧t { nx:=fun _ H'=>Q .non H',rt:=Q } (start N vs) H):Df P w K mg base (k+1) x ps sp:=by
 obtain⟨f,fd,F,b,m⟩:=D.ex
 exact⟨f,fd,F.ok S len (fun cdv A outer s H vs Q E hr h=>hbody f cdv A outer s H vs Q E hr h),b,F.kp,m⟩
theorem zEh {K:PySem.W.Frag}(T:String):PySem.W.kitOne K (.type T) (.type T)=some true:=if_pos (by simp)
theorem kit_ib {K:PySem.W.Frag}:PySem.W.kitOne K (.type "int") (.type "bool")=some false:=by
 first
 | rfl
 | decide +kernel
 | (show (if (Value.type "int" == Value.type "bool")=true then some true else _)=_;rw[if_neg (by decide)];rfl)
 | (show (if (Value.type "int" == Value.type "bool")=true then some true else _)=_;rw[if_neg (by decide)];kernel_rfl)
theorem vint {a b:Int}(h:decide (V.int a=V.int b)=true):a=b:=by
 have:=of_decide_eq_true h
 injection this
theorem nvint {a b:Int}(h:¬ decide (V.int a=V.int b)=true):¬ a=b:=fun e=>h (by rw[e];simp)
theorem vne {a b:Int}(h:(!decide (V.int a=V.int b))=true):¬ a=b:=fun e=>by rw[e] at h;simp at h
theorem nvne {a b:Int}(h:¬ (!decide (V.int a=V.int b))=true):a=b:=by
 by_cases e:a=b
 ·exact e
 ·exact absurd (by simp [e]) h
theorem dec {p:Prop} [Decidable p] (h:decide p=true):p:=of_decide_eq_true h
theorem ndec {p:Prop} [Decidable p] (h:¬ decide p=true):¬ p:=fun e=>h (decide_eq_true e)
theorem vT {H H':Hp}{r:Addr}{o:HO}(h:zN H H')(n:H r=none):zN H (upd H' r o):=fun b u q=>by rw[vA (zY q n)];exact h b u q
theorem zG {H H':Hp}{r:Addr}{o:HO}(h:zN H H')(n:H' r=none):zN H (upd H' r o):=vT h (h.free n)
theorem zCq {n:Nat}(h:n≤20000):n < sizeLine:=Nat.lt_of_le_of_lt h (by decide)
theorem zAu {n:Nat}(h:n≤20000):n≤sizeLine:=Nat.le_of_lt (zCq h)
theorem v9 {α β:Type}{F:α→β→Prop}:∀ {l₁:List α}{l₂:List β}{i:Nat}{a:α},Paired F l₁ l₂→l₁[i]?=some a→∃ b,l₂[i]?=some b∧F a b
 | _,_,0,_,.cons h _,e=>by cases e;exact⟨_,rfl,h⟩
 | _,_,i+1,_,.cons _ t,e=>v9 (i:=i) t (by rw[List.getElem?_cons_succ] at e;exact e)
theorem cut_map (ns:List Int)(lo hi:Option Int):∃ ms:List Int,cutV (ns.map V.int) lo hi=ms.map V.int∧ms.length≤ns.length:=by
 refine⟨(ns.drop (HT.sIx (ns.map V.int).length 0 lo)).take (HT.sIx (ns.map V.int).length (ns.map V.int).length hi-HT.sIx (ns.map V.int).length 0 lo),?_,?_⟩
 ·unfold cutV;rw[List.map_take,List.map_drop]
 ·rw[List.length_take,List.length_drop];omega
theorem int_at {ms:List Int}{i:Nat}{x:V}(h:(ms.map V.int)[i]?=some x):∃ v,x=.int v∧ms[i]?=some v:=by
 rw[List.getElem?_map] at h
 cases e:ms[i]? with
 | none=>rw[e] at h;cases h
 | some v=>rw[e] at h;cases h;exact⟨v,rfl,rfl⟩
theorem atI_in {ns:List Int}{k:Int}(h0:0≤k)(h:k < (ns.length:Int)):∃ v:Int,atI (ns.map V.int) k=some (.int v)∧ns[k.toNat]?=some v:=by
 have hk:k.toNat < ns.length:=(by omega)
 have ek:k=((k.toNat:Nat):Int):=by omega
 have q:atI (ns.map V.int) ((k.toNat:Nat):Int)=some (.int ns[k.toNat]):=v4 (by rw[List.getElem?_map,List.getElem?_eq_getElem hk] <;> rfl)
 rw[← ek] at q
 exact⟨ns[k.toNat],q,List.getElem?_eq_getElem hk⟩
theorem bits_le {a:Int}{m:Nat}(h:a.natAbs < 2^m):Builtin.Int.intBits a≤m:=by
 unfold Builtin.Int.intBits
 split
 ·exact Nat.zero_le _
 ·rename_i hz
  have h0:a.natAbs≠0:=by
   intro z
   apply hz
   simpa using z
  have:=(Nat.log2_lt h0).mpr h
  omega
theorem zDn {a b:Int}{m n:Nat}(ha:a.natAbs < 2^m)(hb:b.natAbs < 2^n)(h:m+n≤134217728):IntMulOk a b:=IntMulOk.of_le (bits_le ha) (bits_le hb) h
theorem wO {a b:Int}(h1:-1000000000≤a)(h2:a≤1000000000):IntMulOk a b:=IntMulOk.of_left (intBits_le_64 (by omega) (by omega))
theorem wF {i j:Int}(h0:0 < j)(h:j≤1000000000):CDivB i j:=by
 refine⟨h0,?_⟩
 have hn:j.natAbs < 2^30:=by omega
 have:=(Nat.log2_lt (show j.natAbs≠0 by omega)).mpr hn
 omega
end L2
namespace L2
open PySem PySem.Spec PyProof.Rows
section
variable {X:Cx}{pins:List (Addr×Obj)}{σ:St}{H:Hp}{s:Shared}{h':Heap}
theorem Inv.turnedL {t':Nat}{its:List Addr}(I:Inv X pins σ H s)(k:∀ b o,b∉its→s.heap.get? b=some o→h'.get? b=some o)(hf:∀ b∈its,FpOk X pins H b):Inv X pins σ H { s with heap:=h',toks:=t' }:=by
 have nit:∀ b u,H b=some u→b∉its:=fun b u e z=>by rw[(hf b z).1] at e;cases e
 refine I.step (g':=s.gens) (d':=s.drawn) (ch:=its) (fun b hb=>?_) (fun b o _ _ hc e _=>k b o hc e) (fun b o _ _ hc e _=>⟨o.slots,k b o hc e⟩) (fun _ _ _ _ n=>n)
  (fun b o hc e=>⟨o,k b o hc e⟩) (fun _ _ e=>e) (fun _ _ _ e=>e) (fun b ps e=>⟨#[],by rw[e];simp⟩) (fun m hm=>?_) (fun b u e=>?_) I.bare
 ·obtain⟨_,f1,_,f3,f4,f5⟩:=hf b hb
  exact⟨f3,f1,f4,f5⟩
 ·obtain⟨o,es,ep,ho,r⟩:=hm
  exact⟨o,es,ep,k _ o (fun z=>(hf _ z).2.1 rfl) ho,r⟩
 ·refine (I.hok b u e).stay (fun c v hc q=>k c v ?_ q) (fun _ q=>q) fun _ _ q=>q
  rcases hc with z | z
  ·rw[z];exact nit b u e
  ·exact nit c _ z
theorem Inv.turnedT {t':Nat}{its:List Addr}{xs:List V}{us:List Value}(I:Inv X pins σ H s)(k:∀ b o,b∉its→s.heap.get? b=some o→h'.get? b=some o)(hf:∀ b∈its,FpOk X pins H b)(hlt:∀ b∈its,b < s.heap.objs.size)
  (ht:h'.get? s.heap.objs.size=some { cls:=.type "tuple",data:=.seq us.toArray })(hz:xs.length≤sizeLine)(r:Vals xs us) :
  Inv X pins σ (upd H s.heap.objs.size (.tup xs)) { s with heap:=h',toks:=t' }∧∀ b∈its,upd H s.heap.objs.size (.tup xs) b=none:=by
 have nf:∀ b∈its,upd H s.heap.objs.size (.tup xs) b=none:=fun b hb=>by rw[vA (Nat.ne_of_lt (hlt b hb))];exact (hf b hb).1
 refine⟨?_,nf⟩
 have I1:Inv X pins σ (upd H s.heap.objs.size (.tup xs)) { s with heap:=s.heap.push { cls:=.type "tuple",data:=.seq us.toArray },toks:=s.toks } :=
  I.laid (t':=s.toks) (fun b u e=>Heap.get?_push_of_some _ e) (Nat.le_refl _) ⟨hz,us,r,⟨_,Heap.get?_push_size _ rfl,rfl,_,rfl⟩⟩
 have I2:=I1.turnedL (h':=h') (t':=t') (its:=its) (fun b o hb e=>?_) (fun b hb=>⟨nf b hb,(hf b hb).2⟩)
 ·exact I2
 ·have e':(s.heap.push { cls:=.type "tuple",data:=.seq us.toArray }).get? b=some o:=e
  have hb':b < s.heap.objs.size+1:=by have:=Heap.lt_size e';rw[Heap.size_push] at this;exact this
  rcases Nat.lt_or_ge b s.heap.objs.size with z | z
  ·cases q:s.heap.get? b with
   | none =>
    exact absurd e' (by
     intro e''
     have:(s.heap.push { cls:=.type "tuple",data:=.seq us.toArray }).get? b=s.heap.get? b:=by
      first | exact Heap.get?_push_lt _ z | exact Heap.get?_push_of_lt _ z | (simp [Heap.get?,Heap.push,Array.getElem?_push,Nat.ne_of_lt z])
     rw[this,q] at e'';cases e'')
   | some o' =>
    have:=Heap.get?_push_of_some { cls:=.type "tuple",data:=.seq us.toArray } q
    rw[e'] at this;cases this
    exact k b o hb q
  ·have eb:b=s.heap.objs.size:=Nat.le_antisymm (Nat.le_of_lt_succ hb') z
   subst eb
   rw[Heap.get?_push_size _ rfl] at e'
   rw[ht];exact e'
end
def Ite (K:PySem.W.Frag)(a:Addr):It :=
 ⟨fun i H=>∃ xs x,SqL K H a xs∧xs[i]?=some x,fun i H v H'=>∃ p x,v=.ref p∧H p=none∧(∀ xs,SqL K H a xs→xs[i]?=some x)∧H'=upd H p (.tup [.int i,x]),fun i H=>∃ xs,SqL K H a xs∧xs.length≤i⟩
theorem turn_enum {P:Program}{w:World}{K:PySem.W.Frag}{elts:List Expr}{x1}{pos:Pos}(a e it:Addr)(hne:e≠it):Turn P w K (.Tuple elts x1 pos) (Ite K a) [e,it] e (fun i h=>∃ old,IsEnum h e it ((i:Nat):Int) old∧h.IsListIter it a i) where
 mem:=by simp
 obj:=fun i h st b hb=>by
  obtain⟨old,he,o,e1,c,d⟩:=st
  rcases List.mem_cons.mp hb with z | z
  ·subst z
   exact⟨_,he,fun v z=>by
    have z':Data.fields _=Data.cell v:=z
    cases z'⟩
  ·have z':b=it:=by simpa using z
   subst z'
   exact⟨o,e1,fun v z=>by rw[d] at z;cases z⟩
 keep:=fun i h h' st k=>by
  obtain⟨old,he,st⟩:=st
  exact⟨old,k e (by simp) _ he,st.at fun o e'=>k it (by simp) o e'⟩
 item:=by
  intro X hP hw hK hc i pins s σ H E I hf st hg
  subst hP hw hK
  obtain⟨old,he,st⟩:=st
  obtain⟨xs,x,hq,hx⟩:=hg
  obtain⟨its,rv,p,hz⟩:=I.list hq
  obtain⟨u,hu,ru⟩:=rv.get hx
  have lte:e < s.heap.objs.size:=Heap.lt_size he
  have lti:it < s.heap.objs.size:=by obtain⟨o,e1,_⟩:=st;exact Heap.lt_size e1
  refine wpAny_pyNext_enum_item he st p.isList (x:=u) (by simpa using hu) hne fun h1 eo st1 ht1 hz1 hk1=>?_
  refine⟨_,rfl,wpAny_letOwnedTupleGo_enum eo fun h2 he2 hs2=>?_⟩
  replace hs2:Heap.SameBut e h1 h2:=hs2
  have nm:∀ b,b∉[e,it]→b≠e∧b≠it:=fun b hb=>⟨fun z=>hb (by simp [z]),fun z=>hb (by simp [z])⟩
  have IT:=I.turnedT (t':=s.toks+1) (h':=h2) (its:=[e,it]) (xs:=[.int ((i:Nat):Int),x]) (us:=[.int i s.toks,u]) (fun b o hb q=>hs2.extBut b o (nm b hb).1 (hk1 b o (nm b hb).1 (nm b hb).2 q)) hf
   (fun b hb=>by
    rcases List.mem_cons.mp hb with z | z
    ·rw[z];exact lte
    ·have z':b=it:=by simpa using z
     rw[z'];exact lti)
   (hs2.extBut _ _ (Nat.ne_of_gt lte) ht1) (by show 2≤sizeLine;decide) (.cons ⟨_,rfl⟩ (.cons ru .nil))
  refine⟨.ref s.heap.objs.size,_,IT.1,rfl,⟨_,x,rfl,I.hok.fresh (Nat.le_refl _),fun ys hy=>by rw[I.zEg hy hq];exact hx,rfl⟩,⟨u,?_,st1.extBut hs2.extBut (Ne.symm hne)⟩,IT.2⟩
  have:((i+1:Nat):Int)=(i:Int)+1:=by push_cast;rfl
  rw[this];exact he2
 done:=by
  intro X hP hw hK hc i pins s σ H E I hf st hg
  subst hP hw hK
  obtain⟨old,he,st⟩:=st
  obtain⟨xs,hq,hx⟩:=hg
  obtain⟨its,rv,p,hz⟩:=I.list hq
  have hl:=rv.length
  obtain⟨f0,f1,f2,f3,f4,f5⟩:=hf it (by simp)
  exact wpAny_pyNext_enum_end (I.ok.hd hc) he st p.isList (by simp;omega) fun h' eb=>⟨rfl,I.turned (t':=s.toks) (fun b o hb e=>eb b o hb e) f0 f1 f3 f4 f5⟩
 self:=fun A i s Q E st h=>by
  obtain⟨old,he,st⟩:=st
  exact wpAny_pyIter_enum he h
section
variable {X:Cx}
def iEnum (K:PySem.W.Frag)(ta:TA):TI:=fun σ H R=>ta σ H fun vs H1=>∃ a,vs=[.ref a]∧(∃ xs,SqL K H1 a xs)∧R (Ite K a) H1
theorem zCb {elts:List Expr}{x1}{pos':Pos}{a:Expr}{ta:TA}{p pos:Pos}(hg:Gl X "enumerate")(hm:X.mg "enumerate"=none)(ha:PA X [a] ta)(hs:starEach [a] X.env=[(false,eval a X.env)]:=by rfl):PI X (.Tuple elts x1 pos') (.Call (.Name "enumerate" p) [a] [] pos) (iEnum X.K ta):=by
 intro pins s σ H R I h
 refine Call_ (zDe I hg hm boot_enumerate (PyProof.Rows.callWith_type1 (thn (ha pos pins s σ H _ I h) fun us s1 ⟨vs,H1,I1,r1,q1⟩=>?_) hs rfl))
 obtain⟨a,e,⟨xs,hq⟩,q⟩:=q1
 subst e
 cases r1 with
 | cons r rr =>
  cases rr
  cases r
  obtain⟨its,rv,p,hz⟩:=I1.list hq
  refine call_enumerate_list p.isList fun h' he hit hz hk=>?_
  have I2:Inv X pins σ H1 { s1 with heap:=h' }:=I1.kept (t':=s1.toks) hk
  refine wpAny_pyIter_enum he ?_
  refine⟨_,[s1.heap.objs.size+1,s1.heap.objs.size],_,_,H1,rfl,I2,turn_enum a _ _ (Nat.succ_ne_self _),⟨.none,he,hit⟩,fun b hb=>?_,q⟩
  rcases List.mem_cons.mp hb with z | z
  ·subst z;exact I1.fpOk (Nat.le_succ _) (I1.hok.fresh (Nat.le_succ _))
  ·have z':b=s1.heap.objs.size:=by simpa using z
   subst z';exact I1.fpOk (Nat.le_refl _) (I1.hok.fresh (Nat.le_refl _))
end
def Itz (K:PySem.W.Frag)(a b:Addr):It :=
  ⟨fun i H=>∃ xs ys x y,SqL K H a xs∧SqL K H b ys∧xs[i]?=some x∧ys[i]?=some y,fun i H v H'=>∃ p x y,v=.ref p∧H p=none∧(∀ xs,SqL K H a xs→xs[i]?=some x)∧(∀ ys,SqL K H b ys→ys[i]?=some y)∧H'=upd H p (.tup [x,y]),
   fun i H=>∃ xs ys,SqL K H a xs∧SqL K H b ys∧(xs.length≤i∨ys.length≤i)⟩
theorem turn_zip {P:Program}{w:World}{K:PySem.W.Frag}{elts:List Expr}{x1}{pos:Pos}(a b z TI TO i1 i2:Addr)(D:ZipApart z TI TO i1 i2 a b):Turn P w K (.Tuple elts x1 pos) (Itz K a b) [z,TI,TO,i1,i2] z
  (fun i h=>IsZip h z TI TO .none∧IsPair h TI (.ref i1) (.ref i2)∧(∃ u v,IsPair h TO u v)∧h.IsListIter i1 a i∧h.IsListIter i2 b i) where
 mem:=by simp
 obj:=fun i h st c hc=>by
  obtain⟨hz,h1,⟨u,v,h2⟩,⟨o1,e1,c1,d1⟩,⟨o2,e2,c2,d2⟩⟩:=st
  simp only [List.mem_cons,List.not_mem_nil,or_false] at hc
  rcases hc with rfl | rfl | rfl | rfl | rfl
  ·exact⟨_,hz,fun v q=>by
    have q':Data.fields _=Data.cell v:=q
    cases q'⟩
  ·exact⟨_,h1,fun v q=>by
    have q':Data.seq _ _=Data.cell v:=q
    cases q'⟩
  ·exact⟨_,h2,fun v q=>by
    have q':Data.seq _ _=Data.cell v:=q
    cases q'⟩
  ·exact⟨o1,e1,fun v q=>by rw[d1] at q;cases q⟩
  ·exact⟨o2,e2,fun v q=>by rw[d2] at q;cases q⟩
 keep:=fun i h h' st k=>by
  obtain⟨hz,h1,⟨u,v,h2⟩,s1,s2⟩:=st
  exact⟨k z (by simp) _ hz,k TI (by simp) _ h1,⟨u,v,k TO (by simp) _ h2⟩,s1.at fun o e=>k i1 (by simp) o e,s2.at fun o e=>k i2 (by simp) o e⟩
 item:=by
  intro X hP hw hK hc i pins s σ H E I hf st hg
  subst hP hw hK
  obtain⟨hz,h1,⟨u0,v0,h2⟩,s1,s2⟩:=st
  obtain⟨xs,ys,x,y,hq,hq',hx,hy⟩:=hg
  obtain⟨its,rv,p,hzl⟩:=I.list hq
  obtain⟨its',rv',p',hzl'⟩:=I.list hq'
  obtain⟨u,hu,ru⟩:=rv.get hx
  obtain⟨u',hu',ru'⟩:=rv'.get hy
  have ltz:z < s.heap.objs.size:=Heap.lt_size hz
  have lt1:TI < s.heap.objs.size:=Heap.lt_size h1
  have lt2:TO < s.heap.objs.size:=Heap.lt_size h2
  have lti:i1 < s.heap.objs.size:=by obtain⟨o,e1,_⟩:=s1;exact Heap.lt_size e1
  have ltj:i2 < s.heap.objs.size:=by obtain⟨o,e1,_⟩:=s2;exact Heap.lt_size e1
  refine wpAny_pyNext_zip_item D hz h1 h2 s1 s2 p.isList p'.isList (x:=u) (y:=u') (by simpa using hu) (by simpa using hu') fun g1 a1 a2 a3 a4 a5 a6 hk=>?_
  refine⟨_,rfl,wpAny_letOwnedTupleGo_zip a1 fun g2 he2 hs2=>?_⟩
  replace hs2:Heap.SameBut z g1 g2:=hs2
  have nm:∀ b,b∉[z,TI,TO,i1,i2]→b≠z∧b≠TO∧b≠i1∧b≠i2:=fun b hb=>⟨fun q=>hb (by simp [q]),fun q=>hb (by simp [q]),fun q=>hb (by simp [q]),fun q=>hb (by simp [q])⟩
  have IT:=I.turnedT (t':=s.toks) (h':=g2) (its:=[z,TI,TO,i1,i2]) (xs:=[x,y]) (us:=[u,u']) (fun b o hb q=>hs2.extBut b o (nm b hb).1 (hk b o (nm b hb).1 (nm b hb).2.1 (nm b hb).2.2.1 (nm b hb).2.2.2 q)) hf
   (fun b hb=>by
    simp only [List.mem_cons,List.not_mem_nil,or_false] at hb
    rcases hb with rfl | rfl | rfl | rfl | rfl <;> assumption)
   (hs2.extBut _ _ (Nat.ne_of_gt ltz) a5) (by show 2≤sizeLine;decide) (.cons ru (.cons ru' .nil))
  exact⟨.ref s.heap.objs.size,_,IT.1,rfl,⟨_,x,y,rfl,I.hok.fresh (Nat.le_refl _),fun ys hy'=>by rw[I.zEg hy' hq];exact hx,fun ys hy'=>by rw[I.zEg hy' hq'];exact hy,rfl⟩,
   ⟨he2,hs2.extBut _ _ D.TIz (hk _ _ D.TIz D.TITO D.TIi1 D.TIi2 h1),⟨_,_,hs2.extBut _ _ D.TOz a2⟩,a3.extBut hs2.extBut D.i1z,a4.extBut hs2.extBut D.i2z⟩,IT.2⟩
 done:=by
  intro X hP hw hK hc i pins s σ H E I hf st hg
  subst hP hw hK
  obtain⟨hz,h1,⟨u0,v0,h2⟩,s1,s2⟩:=st
  obtain⟨xs,ys,hq,hq',hx⟩:=hg
  obtain⟨its,rv,p,hzl⟩:=I.list hq
  obtain⟨its',rv',p',hzl'⟩:=I.list hq'
  have hl:=rv.length
  have hl':=rv'.length
  refine wpAny_pyNext_zip_end (I.ok.hd hc) D hz h1 h2 s1 s2 p.isList p'.isList (by rcases hx with q | q;exact .inl (by simp;omega);exact .inr (by simp;omega)) fun h' hk=>⟨rfl,I.turnedL (t':=s.toks) (its:=[z,TI,TO,i1,i2]) (fun b o hb e=>hk b o ?_ ?_ ?_ ?_ e) hf⟩
  ·exact fun q=>hb (by simp [q])
  ·exact fun q=>hb (by simp [q])
  ·exact fun q=>hb (by simp [q])
  ·exact fun q=>hb (by simp [q])
 self:=fun A i s Q E st h=>wpAny_pyIter_zip st.1 h
section
variable {X:Cx}
def iZip (K:PySem.W.Frag)(ta:TA):TI:=fun σ H R=>ta σ H fun vs H1=>∃ a b,vs=[.ref a,.ref b]∧(∃ xs,SqL K H1 a xs)∧(∃ ys,SqL K H1 b ys)∧R (Itz K a b) H1
theorem zBl {elts:List Expr}{x1}{pos':Pos}{a b:Expr}{ta:TA}{p pos:Pos}(hg:Gl X "zip")(hm:X.mg "zip"=none)(ha:PA X [a,b] ta)(hs:starEach [a,b] X.env=[(false,eval a X.env),(false,eval b X.env)]:=by rfl)(hs2:starEach [b] X.env=[(false,eval b X.env)]:=by rfl) :
  PI X (.Tuple elts x1 pos') (.Call (.Name "zip" p) [a,b] [] pos) (iZip X.K ta):=by
 intro pins s σ H R I h
 refine Call_ (zDe I hg hm boot_zip (PyProof.Rows.callWith_type1 (thn (ha pos pins s σ H _ I h) fun us s1 ⟨vs,H1,I1,r1,q1⟩=>?_) (by rw[hs,hs2]) (by rw[hs2];rfl)))
 obtain⟨a,b,e,⟨xs,hq⟩,⟨ys,hq'⟩,q⟩:=q1
 subst e
 cases r1 with
 | cons r rr =>
  cases rr with
  | cons r' rr =>
   cases rr
   cases r
   cases r'
   obtain⟨its,rv,p,hz⟩:=I1.list hq
   obtain⟨its',rv',p',hz'⟩:=I1.list hq'
   have la:a < s1.heap.objs.size:=by obtain⟨o,e1,_⟩:=p.isList;exact Heap.lt_size e1
   have lb:b < s1.heap.objs.size:=by obtain⟨o,e1,_⟩:=p'.isList;exact Heap.lt_size e1
   refine call_zip_2 p.isList p'.isList fun h' hz hTI hTO hi1 hi2 hsz hk=>?_
   have I2:Inv X pins σ H1 { s1 with heap:=h' }:=I1.kept (t':=s1.toks) hk
   refine wpAny_pyIter_zip hz ?_
   refine⟨_,_,_,_,H1,rfl,I2,turn_zip a b _ _ _ _ _ (zipApart_new la lb),⟨hz,hTI,⟨_,_,hTO⟩,hi1,hi2⟩,fun c hc=>?_,q⟩
   simp only [List.mem_cons,List.not_mem_nil,or_false] at hc
   rcases hc with rfl | rfl | rfl | rfl | rfl <;> exact I1.fpOk (by omega) (I1.hok.fresh (by omega))
end
theorem zBa {K:PySem.W.Frag}{a:Addr}{xs:List V}{g:TG}{tb:TS}{D:Ends}{σ:St}{H:Hp}(Pv:Nat→St→Hp→Prop)(h0:Pv 0 σ H)(hl:∀ i σ H,i≤xs.length→Pv i σ H→SqL K H a xs)
  (hs:∀ i x σ H p,xs[i]?=some x→Pv i σ H→H p=none→g (.ref p) σ (upd H p (.tup [.int i,x])) fun σ2 H2=>tb { D with nx:=Pv (i+1),ct:=Pv (i+1),bk:=D.nx } σ2 H2)(hd:∀ σ H,Pv xs.length σ H→D.nx σ H) :
  ∃ W:Nat→Nat→St→Hp→Prop,(∃ m,W 0 m σ H)∧∀ i m σ H,W i m σ H →
   ((Ite K a).stop i H∧D.nx σ H)∨((Ite K a).go i H∧∃ N:St→Hp→Prop,(∀ σ' H',N σ' H'→∃ m',m' < m∧W (i+1) m' σ' H')∧∀ x H',(Ite K a).yld i H x H'→g x σ H' fun σ2 H2=>tb { D with nx:=N,ct:=N,bk:=D.nx } σ2 H2):=by
 refine⟨fun i m σ H=>m=xs.length-i∧i≤xs.length∧Pv i σ H,⟨xs.length,by simp,Nat.zero_le _,h0⟩,?_⟩
 rintro i m σ H ⟨rfl,hi,p⟩
 have q:=hl i σ H hi p
 by_cases hlt:i < xs.length
 ·refine .inr ⟨⟨xs,xs[i],q,by simp [hlt]⟩,Pv (i+1),fun σ' H' p'=>⟨xs.length-(i+1),by omega,rfl,hlt,p'⟩,fun x H' y=>?_⟩
  obtain⟨r,y,rfl,hr,hy,rfl⟩:=y
  exact hs i y σ _ r (hy xs q) p hr
 ·have e:i=xs.length:=by omega
  subst e
  exact .inl ⟨⟨xs,q,Nat.le_refl _⟩,hd σ H p⟩
theorem comp_enum {K:PySem.W.Frag}{a:Addr}{xs:List V}{g:TG}{tc:TT}{te:TE}{σ':St}{H:Hp}{Q:VK}(Pv:Nat→List V→Hp→Prop)(h0:Pv 0 [] H)(hl:∀ i ys H,i≤xs.length→Pv i ys H→SqL K H a xs)(hz:∀ i ys H,i < xs.length→Pv i ys H→ys.length < sizeLine)
  (hs:∀ i x ys H p,xs[i]?=some x→Pv i ys H→H p=none→g (.ref p) σ' (upd H p (.tup [.int i,x])) fun σ2 H2=>tc σ2 H2 fun b H3=>if b=true then te σ2 H3 fun y H4=>Pv (i+1) (ys ++ [y]) H4 else Pv (i+1) ys H3)(hd:∀ ys H,Pv xs.length ys H→∀ D,H D=none→Q (.ref D) (upd H D (.lst ys))) :
  jK (Ite K a) g tc te σ' Q H:=by
 refine⟨fun i m ys H=>m=xs.length-i∧i≤xs.length∧Pv i ys H,⟨xs.length,by simp,Nat.zero_le _,h0⟩,?_⟩
 rintro i m ys H ⟨rfl,hi,p⟩
 have q:=hl i ys H hi p
 by_cases hlt:i < xs.length
 ·refine .inr ⟨⟨xs,xs[i],q,by simp [hlt]⟩,hz i ys H hlt p,Pv (i+1),fun ys' H' p'=>⟨xs.length-(i+1),by omega,rfl,hlt,p'⟩,fun x H' y=>?_⟩
  obtain⟨r,y,rfl,hr,hy,rfl⟩:=y
  exact hs i y ys _ r (hy xs q) p hr
 ·have e:i=xs.length:=by omega
  subst e
  exact .inl ⟨⟨xs,q,Nat.le_refl _⟩,hd ys H p⟩
theorem comp_zip {K:PySem.W.Frag}{a b:Addr}{xs ys:List V}{g:TG}{tc:TT}{te:TE}{σ':St}{H:Hp}{Q:VK}(hlen:xs.length=ys.length)(Pv:Nat→List V→Hp→Prop)(h0:Pv 0 [] H)(hl:∀ i rs H,i≤xs.length→Pv i rs H→SqL K H a xs∧SqL K H b ys)(hz:∀ i rs H,i < xs.length→Pv i rs H→rs.length < sizeLine)
  (hs:∀ i x y rs H p,xs[i]?=some x→ys[i]?=some y→Pv i rs H→H p=none→g (.ref p) σ' (upd H p (.tup [x,y])) fun σ2 H2=>tc σ2 H2 fun b H3=>if b=true then te σ2 H3 fun y H4=>Pv (i+1) (rs ++ [y]) H4 else Pv (i+1) rs H3)(hd:∀ rs H,Pv xs.length rs H→∀ D,H D=none→Q (.ref D) (upd H D (.lst rs))) :
  jK (Itz K a b) g tc te σ' Q H:=by
 refine⟨fun i m rs H=>m=xs.length-i∧i≤xs.length∧Pv i rs H,⟨xs.length,by simp,Nat.zero_le _,h0⟩,?_⟩
 rintro i m rs H ⟨rfl,hi,p⟩
 have q:=hl i rs H hi p
 by_cases hlt:i < xs.length
 ·refine .inr ⟨⟨xs,ys,xs[i],ys[i],q.1,q.2,by simp [hlt],by simp⟩,hz i rs H hlt p,Pv (i+1),fun ys' H' p'=>⟨xs.length-(i+1),by omega,rfl,hlt,p'⟩,fun x H' y=>?_⟩
  obtain⟨r,x,y,rfl,hr,hx,hy,rfl⟩:=y
  exact hs i x y rs _ r (hx xs q.1) (hy ys q.2) p hr
 ·have e:i=xs.length:=by omega
  subst e
  exact .inl ⟨⟨xs,ys,q.1,q.2,.inl (Nat.le_refl _)⟩,hd rs H p⟩
theorem v5 {K:PySem.W.Frag}{n i j:Nat}(h:n≤i)(h':n≤j):zDt n (gTup K 2 (gCons (jG i) (gCons (jG j) gNil))):=by
 rintro x σ H Q ⟨a,xs,rfl,hq,hl,v,r,rfl,v',r',rfl,rfl,q⟩
 exact⟨a,_,rfl,hq,hl,v,_,rfl,v',_,rfl,rfl,⟨by simp,fun k hk=>by rw[List.getElem?_set_ne (by omega),List.getElem?_set_ne (by omega)]⟩,q⟩
theorem bi_all:bootBuiltins "all"=some (.builtin "all"):=by decide +kernel
theorem bi_min:bootBuiltins "min"=some (.builtin "min"):=by decide +kernel
theorem bi_max:bootBuiltins "max"=some (.builtin "max"):=by decide +kernel
end L2
namespace L2
open PySem PySem.Spec PyProof.Rows PySem.SeqAt
mutual
inductive RdD (K:PySem.W.Frag)(H:Hp):V→PyData→Prop
 | non:RdD K H .non .none
 | bl (b:Bool):RdD K H (.bl b) (.bool b)
 | int (i:Int):RdD K H (.int i) (.int i)
 | str (x:Str):RdD K H (.str x) (.str x)
 | lst {a:Addr}{xs:List V}{ds:List PyData}:SqL K H a xs→RdDs K H xs ds→RdD K H (.ref a) (.list ds)
 | tup {a:Addr}{xs:List V}{ds:List PyData}:SqT K H a xs→RdDs K H xs ds→RdD K H (.ref a) (.tuple ds)
inductive RdDs (K:PySem.W.Frag)(H:Hp):List V→List PyData→Prop
 | nil:RdDs K H [] []
 | cons {x:V}{d:PyData}{xs:List V}{ds:List PyData}:RdD K H x d→RdDs K H xs ds→RdDs K H (x::xs) (d::ds)
end
section
variable {X:Cx}{pins:List (Addr×Obj)}{σ:St}{H:Hp}{s:Shared}
mutual
theorem zCj (I:Inv X pins σ H s):∀ {x:V}{d:PyData}{u:Value},RdD X.K H x d→RelV x u→∃ as,Reads s.heap u d as
 | _,_,_,.non,r=>by cases r;exact⟨_,.none⟩
 | _,_,_,.bl b,r=>by cases r;exact⟨_,.bool b⟩
 | _,_,_,.int i,⟨t,e⟩=>by subst e;exact⟨_,.int i t⟩
 | _,_,_,.str y,⟨t,e⟩=>by subst e;exact⟨_,.str y t⟩
 | _,_,_,.lst h hs,r=>by
  cases r
  obtain⟨its,rv,pl,_⟩:=I.list h
  obtain⟨as,ra⟩:=zBt I hs rv
  obtain⟨o,ho,hc,n,hd⟩:=pl.isList
  exact⟨_,.list ho hc hd ra⟩
 | _,_,_,.tup h hs,r=>by
  cases r
  obtain⟨its,rv,pl,_⟩:=I.tuple h
  obtain⟨as,ra⟩:=zBt I hs rv
  obtain⟨o,ho,hc,n,hd⟩:=pl
  exact⟨_,.tuple ho hc hd ra⟩
theorem zBt (I:Inv X pins σ H s):∀ {xs:List V}{ds:List PyData}{us:List Value},RdDs X.K H xs ds→Vals xs us→∃ as,ReadsAll s.heap us ds as
 | _,_,_,.nil,.nil=>⟨_,.nil⟩
 | _,_,_,.cons h t,.cons r rs=>by
  obtain⟨as,ra⟩:=zCj I h r
  obtain⟨bs,rb⟩:=zBt I t rs
  exact⟨_,.cons ra rb⟩
end
end
def rEqD (K:PySem.W.Frag):R2:=fun x y H Q=>∃ d e,RdD K H x d∧RdD K H y e∧shaped d=true∧shaped e=true∧noMix d e=true∧Q (.bl (same d e)) H
def rNeD (K:PySem.W.Frag):R2:=fun x y H Q=>∃ d e,RdD K H x d∧RdD K H y e∧shaped d=true∧shaped e=true∧noMix d e=true∧Q (.bl (!same d e)) H
theorem hu64 {A:Around}{k:Nat}(hr:zCu k A):A.units+64 < cLine:=by have:=hr.un;omega
section
variable {X:Cx}
theorem op_eqD (hu:X.A.units+64 < cLine):OpR X (compareOp .Eq) (rEqD X.K):=by
 intro pins s σ H x y v u Q I rx ry h
 obtain⟨d,e,h1,h2,s1,s2,nm,q⟩:=h
 obtain⟨as,ra⟩:=zCj I h1 rx
 obtain⟨bs,rb⟩:=zCj I h2 ry
 exact eq_dataH_same ra rb s1 s2 hu nm ⟨.bl _,H,I,rfl,q⟩
theorem op_neD (hu:X.A.units+64 < cLine):OpR X (compareOp .NotEq) (rNeD X.K):=by
 intro pins s σ H x y v u Q I rx ry h
 obtain⟨d,e,h1,h2,s1,s2,nm,q⟩:=h
 obtain⟨as,ra⟩:=zCj I h1 rx
 obtain⟨bs,rb⟩:=zCj I h2 ry
 exact ne_dataH_same ra rb s1 s2 hu nm ⟨.bl _,H,I,rfl,q⟩
end
theorem rd_ints {K:PySem.W.Frag}{H:Hp}:∀ ns:List Int,RdDs K H (ns.map V.int) (ns.map PyData.int)
 | []=>.nil
 | n::r=>.cons (.int n) (rd_ints r)
theorem rd_lst {K:PySem.W.Frag}{H:Hp}{a:Addr}{ns:List Int}(h:SqL K H a (ns.map V.int)):RdD K H (.ref a) (.list (ns.map PyData.int)):=.lst h (rd_ints ns)
theorem mix_ints (ns ms:List Int):noMix (.list (ns.map PyData.int)) (.list (ms.map PyData.int))=true:=by simp only [noMix];exact PySem.W.noMix_ints ns ms
theorem same_intsL (ns ms:List Int):same (.list (ns.map PyData.int)) (.list (ms.map PyData.int))=decide (ns=ms):=by simp only [same];exact PySem.W.same_ints ns ms
theorem eqL_of {K:PySem.W.Frag}{H:Hp}{a b:Addr}{ns ms:List Int}{Q:VK}(h1:SqL K H a (ns.map V.int))(h2:SqL K H b (ms.map V.int))(q:Q (.bl (decide (ns=ms))) H):rEqD K (.ref a) (.ref b) H Q :=
 ⟨_,_,rd_lst h1,rd_lst h2,PySem.W.shaped_ints ns,PySem.W.shaped_ints ms,mix_ints ns ms,by rw[same_intsL];exact q⟩
theorem vals_toks:∀ {ns:List Int}{its:List Value},Vals (ns.map V.int) its→∃ ts:List (Int×Tok),its=ts.map (fun p=>Value.int p.1 p.2)∧ts.map (·.1)=ns
 | [],_,.nil=>⟨[],rfl,rfl⟩
 | n::r,_,.cons ⟨t,e⟩ rs=>by
  obtain⟨ts,e1,e2⟩:=vals_toks rs
  subst e
  exact⟨(n,t)::ts,by rw[e1];rfl,by rw[← e2];rfl⟩
section
variable {X:Cx}
theorem call_sumL (hc:X.calm=true):zEb X (.builtin "sum") (fun xs H Q=>∃ (a:Addr)(ns:List Int),xs=[.ref a]∧SqL X.K H a (ns.map V.int)∧Q (.int ns.sum) H):=by
 intro pins s σ H xs us Q I r h
 obtain⟨a,ns,rfl,hl,q⟩:=h
 obtain⟨u,rfl,ru⟩:=vals1 r
 cases ru
 obtain⟨its,rv,pl,_⟩:=I.list hl
 obtain⟨ts,e1,e2⟩:=vals_toks rv
 have hi:s.heap.IsList a (intItems ts.toArray):=by
  have e:intItems ts.toArray=its.toArray:=by rw[e1];simp [intItems]
  rw[e];exact pl.isList
 refine sum_intListG (I.ok.hd hc) hi fun h' tk t' hk=>⟨.int ns.sum,H,I.kept (t':=tk) hk,⟨t',?_⟩,q⟩
 rw[preSum_eq,List.take_of_length_le (by simp),← e2]
end
end L2
namespace Ld
def S:Nat→(Int→Int)→Int
 | 0,_=>0
 | n+1,F=>S n F+F n
theorem zH {F G:Int→Int}:∀ {n:Nat},(∀ j:Nat,j < n→F j=G j)→S n F=S n G
 | 0,_=>rfl
 | n+1,h=>by simp only [S];rw[zH fun j hj=>h j (by omega),h n (by omega)]
theorem jA:∀ n:Nat,S n (fun _=>0)=0
 | 0=>rfl
 | n+1=>by simp only [S];rw[jA n];rfl
theorem wS (F G:Int→Int):∀ n:Nat,S n (fun j=>F j+G j)=S n F+S n G
 | 0=>rfl
 | n+1=>by simp only [S];rw[wS F G n];omega
theorem vL (c:Int)(F:Int→Int):∀ n:Nat,S n (fun j=>c*F j)=c*S n F
 | 0=>by simp [S]
 | n+1=>by simp only [S];rw[vL c F n,Int.mul_add]
theorem zDr (c:Int)(F:Int→Int)(n:Nat):S n (fun j=>F j*c)=S n F*c:=by
 rw[Int.mul_comm,← vL];exact zH fun j _=>Int.mul_comm _ _
theorem jH (F:Int→Int→Int)(m:Nat):∀ n:Nat,S n (fun j=>S m (fun k=>F j k))=S m (fun k=>S n (fun j=>F j k))
 | 0=>by simp only [S];rw[jA]
 | n+1=>by simp only [S];rw[jH F m n,← wS]
theorem S_one {c:Int}{G:Int→Int}:∀ {n:Nat},0≤c→S n (fun j=>if j=c then G j else 0)=if c < n then G c else 0
 | 0,h=>by simp only [S];rw[if_neg (by omega)]
 | n+1,h=>by
  simp only [S]
  rw[S_one h]
  by_cases e:(n:Int)=c
  ·subst e
   rw[if_neg (by omega),if_pos rfl,if_pos (by omega)];omega
  ·rw[if_neg e]
   by_cases q:c < (n:Int)
   ·rw[if_pos q,if_pos (by omega)];omega
   ·rw[if_neg q,if_neg (by omega)];omega
def Per (n:Nat)(F:Int→Int):Prop:=∀ x y:Int,x%n=y%n→F x=F y
theorem Per.md {n:Nat}{F:Int→Int}(h:Per n F)(x:Int):F (x%n)=F x:=h _ _ (Int.emod_emod_of_dvd x (Int.dvd_refl _))
def at' (a:List Int)(x:Int):Int:=a.getD (x%a.length).toNat 0
theorem at_per (a:List Int):Per a.length (at' a):=fun x y h=>by unfold at';rw[h]
theorem at_per' {a:List Int}{n:Nat}(h:a.length=n):Per n (at' a):=h▸at_per a
theorem hole_lt {n:Nat}(hn:0 < n)(x:Int):(x%n).toNat < n:=by
 have h1:=Int.emod_nonneg x (show (n:Int)≠0 by omega)
 have h2:=Int.emod_lt_of_pos x (show (0:Int) < n by omega)
 omega
theorem hole_eq {n:Nat}(hn:0 < n)(x:Int):(((x%n).toNat:Nat):Int)=x%n:=Int.toNat_of_nonneg (Int.emod_nonneg x (by omega))
theorem at_get {a:List Int}{x:Int}(h:0 < a.length):a[(x%a.length).toNat]?=some (at' a x):=by
 have:=hole_lt h x
 unfold at'
 rw[List.getD_eq_getElem?_getD,List.getElem?_eq_getElem this];rfl
def hung (n:Nat)(h w:Int):List Int:=(List.replicate n 0).set (h%n).toNat w
def conv (a b:List Int):List Int:=(List.range b.length).map fun x:Nat=>S b.length fun j=>at' a j*at' b ((x:Int)-j)
def Bd (B:Nat)(a:List Int):Prop:=∀ x∈a,x.natAbs≤B
end Ld
namespace Ld
def nz (a:List Int)(i:Nat):List (Int×Int):=((List.range i).map fun j:Nat=>((j:Int),at' a j)).filter fun p=>decide (¬ p.2=0)
end Ld
namespace L2
open PySem PySem.Spec PyProof.Rows PySem.SeqAt
theorem zDx {n:Nat}{k:Int}(h0:0≤k)(h1:k < n):ixN n k=some k.toNat:=by unfold ixN;rw[if_pos h0,if_pos h1]
theorem ixN_mod {xs:List V}{n:Nat}(hl:xs.length=n)(hn:0 < n)(x:Int):ixN xs.length (x%n)=some (x%n).toNat:=by
 rw[hl];exact zDx (Int.emod_nonneg _ (by omega)) (Int.emod_lt_of_pos _ (by omega))
theorem mlen {a:List Int}{n:Nat}(hl:a.length=n):(a.map V.int).length=n:=by rw[List.length_map,hl]
theorem rep0 (m:Nat):(List.replicate ((m:Nat):Int).toNat [V.int 0]).flatten=(List.replicate m (0:Int)).map V.int:=by
 rw[Int.toNat_natCast]
 induction m with
 | zero=>rfl
 | succ k ih=>rw[List.replicate_succ,List.flatten_cons,ih,List.replicate_succ,List.map_cons];rfl
theorem set_int {a:List Int}{j:Nat}{v:Int}:(a.map V.int).set j (.int v)=(a.set j v).map V.int:=by rw[List.map_set]
theorem j4 {l:List Int}{i:Nat}{v:Int}(h:l[i]?=some v):(l.take (i+1)).map V.int=(l.take i).map V.int ++ [.int v]:=by
 rw[List.take_succ,h,List.map_append];rfl
theorem zAt {l:List Int}{n:Nat}(h:l.length=n):(l.take n).map V.int=l.map V.int:=by rw[← h,List.take_length]
def PrAt (H:Hp)(r:Addr)(ps:List (Int×Int)):Prop:=∃ as:List Addr,H r=some (.lst (as.map V.ref))∧Paired (fun a (x:Int×Int)=>H a=some (.tup [.int x.1,.int x.2])) as ps
theorem zFa {as:List Addr}{i:Nat}{x:V}(h:(as.map V.ref)[i]?=some x):∃ a,x=.ref a∧as[i]?=some a:=by
 rw[List.getElem?_map] at h
 cases e:as[i]? with
 | none=>rw[e] at h;cases h
 | some v=>rw[e] at h;cases h;exact⟨v,rfl,rfl⟩
theorem jY {n:Nat}{g:TG}{tb:TS}{D:Ends}{σ:St}{H:Hp}(Pv:Nat→St→Hp→Prop)(h0:Pv 0 σ H)
  (hs:∀ i σ H,i < n→Pv i σ H→g (.int i) σ H fun σ2 H2=>tb { D with nx:=Pv (i+1),ct:=Pv (i+1),bk:=D.nx } σ2 H2)(hd:∀ σ H,Pv n σ H→D.nx σ H) :
  ∃ W:Nat→Nat→St→Hp→Prop,(∃ m,W 0 m σ H)∧∀ i m σ H,W i m σ H →
   ((Itr 0 n).stop i H∧D.nx σ H)∨((Itr 0 n).go i H∧∃ N:St→Hp→Prop,(∀ σ' H',N σ' H'→∃ m',m' < m∧W (i+1) m' σ' H')∧∀ x H',(Itr 0 n).yld i H x H'→g x σ H' fun σ2 H2=>tb { D with nx:=N,ct:=N,bk:=D.nx } σ2 H2) :=
 for_range Pv h0 (fun i σ H hi p=>by rw[Int.zero_add];exact hs i σ H hi p) hd
theorem comp_range0 {n:Nat}{g:TG}{tc:TT}{te:TE}{σ':St}{H:Hp}{Q:VK}(Pv:Nat→List V→Hp→Prop)(h0:Pv 0 [] H)(hz:∀ i ys H,i < n→Pv i ys H→ys.length < sizeLine)
  (hs:∀ i ys H,i < n→Pv i ys H→g (.int i) σ' H fun σ2 H2=>tc σ2 H2 fun b H3=>if b=true then te σ2 H3 fun y H4=>Pv (i+1) (ys ++ [y]) H4 else Pv (i+1) ys H3)(hd:∀ ys H,Pv n ys H→∀ D,H D=none→Q (.ref D) (upd H D (.lst ys))) :
  jK (Itr 0 n) g tc te σ' Q H:=zGo Pv h0 hz (fun i ys H hi p=>by rw[Int.zero_add];exact hs i ys H hi p) hd
theorem zBb {X:Cx}{K:PySem.W.Frag}(h:X.K=K):IxR X (rIxL K):=by subst h;exact vP
theorem call_lenK {X:Cx}{K:PySem.W.Frag}(h:X.K=K):zEb X (.builtin "len") (fun xs H Q=>∃ p ys,xs=[.ref p]∧(SqL K H p ys∨SqT K H p ys)∧Q (.int ys.length) H):=by subst h;exact zS
end L2
namespace L2
open PySem PySem.Spec PyProof.Rows
def Itr3 (lo st:Int)(n:Nat):It:=⟨fun i _=>i < n,fun i H x H'=>H'=H∧x=.int (lo+i*st),fun i _=>n≤i⟩
theorem turn_range3 {P:Program}{w:World}{K:PySem.W.Frag}{tg:Expr}(it:Addr)(lo st:Int)(n:Nat):Turn P w K tg (Itr3 lo st n) [it] it (fun i h=>IsRangeIter h it (lo+(i:Nat)*st) ((n:Int)-(i:Nat)) st) where
 mem:=by simp
 obj:=fun i h st b hb=>by
  have e:b=it:=by simpa using hb
  subst e
  exact⟨_,st,fun v z=>by
   have z':Data.fields _=Data.cell v:=z
   cases z'⟩
 keep:=fun i h h' st k=>k it (by simp) _ st
 item:=by
  intro X hP hw hK hc i pins s σ H E I hf st' hg
  subst hP hw hK
  obtain⟨f0,f1,f2,f3,f4,f5⟩:=hf it (by simp)
  have W:=Walks.range (prog:=X.prog) (w:=X.w) (I.ok.hd hc) it lo st n
  refine W.item i s _ _ hg st' fun v h' tk hv st'' kk=>?_
  obtain⟨t,rfl⟩:=hv
  have I1:Inv X pins σ H { s with heap:=h',toks:=tk }:=I.turned (fun b o hb e=>kk b o (by simpa using hb) e) f0 f1 f3 f4 f5
  exact⟨_,rfl,go_of (s:={ s with heap:=h',toks:=tk }) (n:="range_iterator") st'' rfl rfl (by decide) ⟨.int (lo+i*st),H,I1,⟨t,rfl⟩,⟨rfl,rfl⟩,st'',fun b hb=>(hf b hb).1⟩⟩
 done:=by
  intro X hP hw hK hc i pins s σ H E I hf st hg
  subst hP hw hK
  obtain⟨f0,f1,f2,f3,f4,f5⟩:=hf it (by simp)
  exact wpAny_pyNext_range_end (I.ok.hd hc) st (by have:n≤i:=hg;omega) fun h' eb=>⟨rfl,I.turned (t':=s.toks) (fun b o hb e=>eb b o hb e) f0 f1 f3 f4 f5⟩
 self:=fun _ _ _ _ _ st h=>wpAny_pyIter_rangeiter st h
section
variable {X:Cx}{tg:Expr}
theorem for_range3 {lo st:Int}{n:Nat}{g:TG}{tb:TS}{D:Ends}{σ:St}{H:Hp}(Pv:Nat→St→Hp→Prop)(h0:Pv 0 σ H)
  (hs:∀ i σ H,i < n→Pv i σ H→g (.int (lo+i*st)) σ H fun σ2 H2=>tb { D with nx:=Pv (i+1),ct:=Pv (i+1),bk:=D.nx } σ2 H2)(hd:∀ σ H,Pv n σ H→D.nx σ H) :
  ∃ W:Nat→Nat→St→Hp→Prop,(∃ m,W 0 m σ H)∧∀ i m σ H,W i m σ H →
   ((Itr3 lo st n).stop i H∧D.nx σ H)∨((Itr3 lo st n).go i H∧∃ N:St→Hp→Prop,(∀ σ' H',N σ' H'→∃ m',m' < m∧W (i+1) m' σ' H')∧∀ x H',(Itr3 lo st n).yld i H x H'→g x σ H' fun σ2 H2=>tb { D with nx:=N,ct:=N,bk:=D.nx } σ2 H2):=by
 refine⟨fun i m σ H=>m=n-i∧i≤n∧Pv i σ H,⟨n,by simp,Nat.zero_le _,h0⟩,?_⟩
 rintro i m σ H ⟨rfl,hi,p⟩
 by_cases hlt:i < n
 ·refine .inr ⟨hlt,Pv (i+1),fun σ' H' p'=>⟨n-(i+1),by omega,rfl,hlt,p'⟩,fun x H' y=>?_⟩
  obtain⟨e,y⟩:=y
  subst e y
  exact hs i σ _ hlt p
 ·have e:i=n:=by omega
  subst e
  exact .inl ⟨Nat.le_refl _,hd σ H p⟩
end
def TrAt (H:Hp)(r:Addr)(ts:List (Int×Int×Int)):Prop:=∃ as:List Addr,H r=some (.lst (as.map V.ref))∧Paired (fun a (x:Int×Int×Int)=>H a=some (.tup [.int x.1,.int x.2.1,.int x.2.2])) as ts
theorem TrAt.same {H H':Hp}{r:Addr}{ts:List (Int×Int×Int)}(h:TrAt H r ts)(s:zN H H'):TrAt H' r ts:=let ⟨as,h1,h2⟩:=h;⟨as,s _ _ h1,Paired.mapP h2 fun d x e=>s _ _ e⟩
end L2
namespace L2
open PySem PySem.Spec PyProof.Rows PySem.SeqAt
section
variable {X:Cx}
abbrev bts (i:Int):Int:=((Builtin.Int.intBits i:Nat):Int)
def rBits:V→List V→Hp→VK→Prop:=fun x vs H Q=>∃ i:Int,x=.int i∧vs=[]∧Q (.int (bts i)) H
theorem zFc:MtM X "int.bit_length" rBits:=by
 intro pins s σ H x vs v us Q I rx rv h
 obtain⟨i,rfl,rfl,q⟩:=h
 cases rv
 obtain⟨t,rfl⟩:=rx
 exact call_int_bit_length ⟨.int (bts i),H,I.tok _,⟨_,rfl⟩,q⟩
theorem bts_zero {i:Int}(h:¬ bts i > 0):i=0:=by
 unfold bts Builtin.Int.intBits at h
 by_cases e:i=0
 ·exact e
 ·rw[if_neg (by simpa using e)] at h;omega
theorem bts_pos {i:Int}(h:bts i > 0):¬ i=0:=by
 rintro rfl
 exact absurd h (by decide)
end
end L2
namespace L2
open PySem PySem.Spec PyProof.Rows
section
variable {κ:Type} [DecidableEq κ]
def valV (kvs:List (κ×V))(k:κ):Option V:=(kvs.find? fun kv=>decide (kv.1=k)).map (·.2)
def putK (kvs:List (κ×V))(k:κ)(v:V):List (κ×V) :=
 if (kvs.any fun kv=>decide (kv.1=k))=true then kvs.map (fun kv=>if kv.1=k then (kv.1,v) else kv) else kvs ++ [(k,v)]
theorem KV.length {kvs:List (κ×V)}{vs:List (κ×Value)}(r:KV kvs vs):kvs.length=vs.length:=Paired.length r
end
abbrev KT (H:Hp):List (List Key×V)→List (List Key×Addr×Value)→Prop:=Paired fun p q=>p.1=q.1∧H q.2.1=some (.tup (p.1.map kV))∧RelV p.2 q.2.2
theorem KT.keeps {H H':Hp}{kvs:List (List Key×V)}{xs:List (List Key×Addr×Value)}(r:KT H kvs xs)(ht:∀ b ys,H b=some (.tup ys)→H' b=some (.tup ys)):KT H' kvs xs :=
 Paired.mapP r fun _ _ z=>⟨z.1,ht _ _ z.2.1,z.2.2⟩
section
variable {P:Program}{w:World}{H:Hp}{h:Heap}{a:Addr}
end
def DGet (H:Hp)(a:Addr)(y:V)(r:Option V):Prop :=
 (∃ kvs k,Rd H a (.dK kvs)∧y=kV k∧r=valV kvs k)∨∃ kvs k b,Rd H a (.dT kvs)∧y=.ref b∧H b=some (.tup (k.map kV))∧r=valV kvs k
def DPut (H:Hp)(a:Addr)(y v:V)(H':Hp):Prop :=
 (∃ kvs k,H a=some (.dK kvs)∧y=kV k∧kvs.length < sizeLine∧H'=upd H a (.dK (putK kvs k v))) ∨
 ∃ kvs k b,H a=some (.dT kvs)∧y=.ref b∧H b=some (.tup (k.map kV))∧kvs.length < sizeLine∧H'=upd H a (.dT (putK kvs k v))
theorem DGet.k {H:Hp}{a:Addr}{kvs:List (Key×V)}{k:Key}(e:H a=some (.dK kvs)):DGet H a (kV k) (valV kvs k):=.inl ⟨kvs,k,.inl e,rfl,rfl⟩
theorem DGet.t {H:Hp}{a b:Addr}{kvs:List (List Key×V)}{k:List Key}(e:H a=some (.dT kvs))(eb:H b=some (.tup (k.map kV))):DGet H a (.ref b) (valV kvs k):=.inr ⟨kvs,k,b,.inl e,rfl,eb,rfl⟩
theorem DPut.k {H:Hp}{a:Addr}{kvs:List (Key×V)}{k:Key}{v:V}(e:H a=some (.dK kvs))(hl:kvs.length < sizeLine):DPut H a (kV k) v (upd H a (.dK (putK kvs k v))):=.inl ⟨kvs,k,e,rfl,hl,rfl⟩
theorem DPut.t {H:Hp}{a b:Addr}{kvs:List (List Key×V)}{k:List Key}{v:V}(e:H a=some (.dT kvs))(eb:H b=some (.tup (k.map kV)))(hl:kvs.length < sizeLine) :
  DPut H a (.ref b) v (upd H a (.dT (putK kvs k v))):=.inr ⟨kvs,k,b,e,rfl,eb,hl,rfl⟩
section
variable {X:Cx}{pins:List (Addr×Obj)}{σ:St}{H:Hp}{s:Shared}{a:Addr}{y v:V}{u r:Value}{o:Option V}{A:Around}{E:Value→Shared→Prop}
theorem Inv.big (I:Inv X pins σ H s):sysModules < s.heap.objs.size:=by
 have h:mainGlobals < s.heap.objs.size:=(I.mod.glob.keeps I.bk).lt
 exact Nat.lt_trans (by decide) h
end
section
variable {X:Cx}{pins:List (Addr×Obj)}{σ:St}{H:Hp}{s:Shared}{a:Addr}{kvs:List (Key×V)}{k:Key}{u:Value}{A:Around}{E:Value→Shared→Prop}
end
section
variable {X:Cx}{o i e value:Expr}{pos pos' tpos:Pos}{td ty tv:TE}
end
section
variable {X:Cx}{pos:Pos}
end
structure M1 (X:Cx)(o:Expr)(m:Str)(apos:Pos)(e:Expr)(cpos:Pos):Prop where
 base:attributeBase o m X.env (eval o X.env)=eval o X.env
 few:((backTo cpos (starEach [e] X.env)).all (fun x=>!x.1) && (backToKw cpos (keywordEach [] X.env)).all (fun x=>x.1.isSome)
  && decide (([e]:List Expr).length+([]:List Keyword).length+(if ([]:List Keyword).isEmpty then 0 else 1) < 30))=true
 line:(apos.endLine == cpos.line)=true
 trees:backTo cpos (starEach [e] X.env)=[(false,eval e X.env)]
structure M2 (X:Cx)(o:Expr)(m:Str)(apos:Pos)(e f:Expr)(cpos:Pos):Prop where
 base:attributeBase o m X.env (eval o X.env)=eval o X.env
 few:((backTo cpos (starEach [e,f] X.env)).all (fun x=>!x.1) && (backToKw cpos (keywordEach [] X.env)).all (fun x=>x.1.isSome)
  && decide (([e,f]:List Expr).length+([]:List Keyword).length+(if ([]:List Keyword).isEmpty then 0 else 1) < 30))=true
 line:(apos.endLine == cpos.line)=true
 trees:backTo cpos (starEach [e,f] X.env)=[(false,eval e X.env),(false,eval f X.env)]
section
variable {X:Cx}{pins:List (Addr×Obj)}{σ:St}{H:Hp}{s:Shared}{a:Addr}{y d:V}{u r:Value}{o:Option V}{A:Around}{E:Value→Shared→Prop}
end
section
variable {X:Cx}{o e f:Expr}{apos cpos:Pos}{td ty tx:TE}
end
section
variable {X:Cx}{pins:List (Addr×Obj)}{σ:St}{H:Hp}{s:Shared}{a:Addr}{kvs:List (Key×V)}{A:Around}{E:Value→Shared→Prop}
end
section
variable {X:Cx}{pins:List (Addr×Obj)}{σ:St}{H:Hp}{s:Shared}{a:Addr}{y:V}{u:Value}{A:Around}{E:Value→Shared→Prop}
end
end L2
namespace L2
open PySem PySem.Spec PyProof.Rows
section
variable {κ:Type} [DecidableEq κ]
end
end L2
namespace L2
open PySem PySem.Spec PyProof.Rows PySem.SeqAt
section
variable {X:Cx}
end
abbrev kI (i:Int):Key:=.inl i
abbrev k2 (p h:Int):List Key:=[.inl p,.inl h]
theorem DGet.p {H:Hp}{a b:Addr}{kvs:List (List Key×V)}{p h:Int}(e:H a=some (.dT kvs))(eb:H b=some (.tup [.int p,.int h])):DGet H a (.ref b) (valV kvs (k2 p h)):=DGet.t (k:=k2 p h) e eb
theorem DPut.p {H:Hp}{a b:Addr}{kvs:List (List Key×V)}{p h:Int}{v:V}(e:H a=some (.dT kvs))(eb:H b=some (.tup [.int p,.int h]))(hl:kvs.length < sizeLine):DPut H a (.ref b) v (upd H a (.dT (putK kvs (k2 p h) v))):=DPut.t (k:=k2 p h) e eb hl
theorem DGet.i {H:Hp}{a:Addr}{kvs:List (Key×V)}{i:Int}(e:H a=some (.dK kvs)):DGet H a (.int i) (valV kvs (kI i)):=DGet.k (k:=kI i) e
theorem DPut.i {H:Hp}{a:Addr}{kvs:List (Key×V)}{i:Int}{v:V}(e:H a=some (.dK kvs))(hl:kvs.length < sizeLine):DPut H a (.int i) v (upd H a (.dK (putK kvs (kI i) v))):=DPut.k (k:=kI i) e hl
end L2
namespace L2
open PySem PySem.Spec PyProof.Rows PySem.SeqAt
theorem vals_bl:∀ {bs:List Bool}{its:List Value},Vals (bs.map V.bl) its→its=bs.map Value.bool
 | [],_,.nil=>rfl
 | b::r,_,.cons e rs=>by
  have e':_=Value.bool b:=e
  rw[List.map_cons,← vals_bl rs,← e']
theorem range_all' (bs:List Bool):((List.range bs.length).all fun i=>(bs[i]?).getD true)=bs.all id:=by
 rw[Bool.eq_iff_iff,List.all_eq_true,List.all_eq_true]
 constructor
 ·intro h b hb
  obtain⟨i,hi,e⟩:=List.getElem_of_mem hb
  have:=h i (List.mem_range.mpr hi)
  simp only [List.getElem?_eq_getElem hi,Option.getD_some,e] at this
  exact this
 ·intro h i hi
  have hi':=List.mem_range.mp hi
  simp only [List.getElem?_eq_getElem hi',Option.getD_some]
  exact h _ (List.getElem_mem hi')
theorem kept_it {s:Shared}{h':Heap}{o:Obj}(hk:∀ b x,b∉[s.heap.objs.size]→(s.heap.push o).get? b=some x→h'.get? b=some x):∀ b x,s.heap.get? b=some x→h'.get? b=some x :=
 fun b x e=>hk b x (fun hm=>by rw[List.mem_singleton.mp hm] at e;exact Nat.lt_irrefl _ (Heap.lt_size e)) (Heap.get?_push_of_some _ e)
section
variable {X:Cx}
theorem call_allB (hc:X.calm=true):zEb X (.builtin "all") (fun xs H Q=>∃ (a:Addr)(bs:List Bool),xs=[.ref a]∧SqL X.K H a (bs.map V.bl)∧Q (.bl (bs.all id)) H):=by
 intro pins s σ H xs us Q I r h
 obtain⟨a,bs,rfl,hl,q⟩:=h
 obtain⟨u,rfl,ru⟩:=vals1 r
 cases ru
 obtain⟨its,rv,pl,_⟩:=I.list hl
 have ei:=vals_bl rv
 subst ei
 have hL:=pl.isList
 have hlt:a < s.heap.objs.size:=by obtain⟨_,e,_⟩:=hL;exact Heap.lt_size e
 refine call_all_walk (wpAny_pyIter_list hL ?_)
 refine⟨s.heap.objs.size,[s.heap.objs.size,a],[s.heap.objs.size],(bs.map Value.bool).toArray.size,_,_,fun i=>(bs[i]?).getD true,rfl,Walks.list (A:=X.A.in1) (I.ok.hd hc) _ a (Nat.ne_of_lt hlt) (bs.map Value.bool).toArray,
  ⟨⟨_,Heap.get?_push_size _ rfl,rfl,rfl⟩,hL.push _⟩,fun i v s' Q' E' hP hQ=>?_,fun h' tk hk=>?_⟩
 ·have hP':(bs.map Value.bool)[i]?=some v:=by simpa using hP
  rw[List.getElem?_map] at hP'
  cases e:bs[i]? with
  | none=>rw[e] at hP';cases hP'
  | some b =>
   rw[e] at hP'
   cases hP'
   simp only [e,Option.getD_some] at hQ
   exact wpAny_truthy_bool hQ
 ·have e:((List.range (bs.map Value.bool).toArray.size).all fun i=>(bs[i]?).getD true)=bs.all id:=by
   rw[List.size_toArray,List.length_map];exact range_all' bs
  rw[e]
  exact⟨.bl _,H,I.kept (t':=tk) (kept_it hk),rfl,q⟩
end
end L2
namespace L2
open PySem PySem.Spec PyProof.Rows PySem.SeqAt
section
variable {X:Cx}
end
end L2
namespace L2
open PySem PySem.Spec PyProof.Rows PySem.SeqAt
end L2
namespace L2
open PySem PySem.Spec PyProof.Rows PySem.SeqAt
end L2
namespace L2
open PySem PySem.Spec PyProof.Rows PySem.SeqAt
theorem zEr {c A B:Prop} [Decidable c] (h:c)(a:A):if c then A else B:=by rw[if_pos h];exact a
theorem zEd {c A B:Prop} [Decidable c] (h:¬ c)(b:B):if c then A else B:=by rw[if_neg h];exact b
theorem for_zip {K:PySem.W.Frag}{a b:Addr}{xs ys:List V}{g:TG}{tb:TS}{D:Ends}{σ:St}{H:Hp}(hlen:xs.length=ys.length)(Pv:Nat→St→Hp→Prop)(h0:Pv 0 σ H)(hl:∀ i σ H,i≤xs.length→Pv i σ H→SqL K H a xs∧SqL K H b ys)
  (hs:∀ i x y σ H p,xs[i]?=some x→ys[i]?=some y→Pv i σ H→H p=none→g (.ref p) σ (upd H p (.tup [x,y])) fun σ2 H2=>tb { D with nx:=Pv (i+1),ct:=Pv (i+1),bk:=D.nx } σ2 H2)(hd:∀ σ H,Pv xs.length σ H→D.nx σ H) :
  ∃ W:Nat→Nat→St→Hp→Prop,(∃ m,W 0 m σ H)∧∀ i m σ H,W i m σ H →
   ((Itz K a b).stop i H∧D.nx σ H)∨((Itz K a b).go i H∧∃ N:St→Hp→Prop,(∀ σ' H',N σ' H'→∃ m',m' < m∧W (i+1) m' σ' H')∧∀ x H',(Itz K a b).yld i H x H'→g x σ H' fun σ2 H2=>tb { D with nx:=N,ct:=N,bk:=D.nx } σ2 H2):=by
 refine⟨fun i m σ H=>m=xs.length-i∧i≤xs.length∧Pv i σ H,⟨xs.length,by simp,Nat.zero_le _,h0⟩,?_⟩
 rintro i m σ H ⟨rfl,hi,p⟩
 obtain⟨q1,q2⟩:=hl i σ H hi p
 by_cases hlt:i < xs.length
 ·refine .inr ⟨⟨xs,ys,xs[i],ys[i]'(by omega),q1,q2,by simp [hlt],by simp [show i < ys.length by omega]⟩,Pv (i+1),fun σ' H' p'=>⟨xs.length-(i+1),by omega,rfl,hlt,p'⟩,fun x H' y=>?_⟩
  obtain⟨r,y1,y2,rfl,hr,hy1,hy2,rfl⟩:=y
  exact hs i y1 y2 σ _ r (hy1 xs q1) (hy2 ys q2) p hr
 ·have e:i=xs.length:=by omega
  subst e
  exact .inl ⟨⟨xs,ys,q1,q2,.inl (Nat.le_refl _)⟩,hd σ H p⟩
theorem cut_from (ns:List Int)(k:Nat):cutV (ns.map V.int) (some (k:Int)) none=(ns.drop k).map V.int:=by
 unfold cutV
 rw[HT.sIx_nat,HT.sIx_none,List.length_map,← List.map_drop,← List.map_take]
 congr 1
 by_cases h:k≤ns.length
 ·rw[Nat.min_eq_left h,List.take_of_length_le (by rw[List.length_drop];omega)]
 ·rw[Nat.min_eq_right (by omega),List.drop_of_length_le (Nat.le_refl _),List.drop_of_length_le (by omega)];simp
end L2
namespace L2
open PySem PySem.Spec PyProof.Rows PySem.SeqAt
theorem Paired.appP {α β:Type}{F:α→β→Prop}:∀ {a c:List α}{b d:List β},Paired F a b→Paired F c d→Paired F (a ++ c) (b ++ d)
 | _,_,_,_,.nil,h=>h
 | _,_,_,_,.cons h t,g=>.cons h (Paired.appP t g)
section
variable {X:Cx}
end
abbrev d3 (t:Int×Int×Int):PyData:=.tuple [.int t.1,.int t.2.1,.int t.2.2]
end L2
namespace L2
open PySem PySem.Spec PyProof.Rows PySem.SeqAt
theorem sl_listK {X:Cx}{K:PySem.W.Frag}(h:X.K=K):SlR X (rSlL K):=by subst h;exact zCz
theorem same4 (x y z w a b c d:Int):same (.tuple [.int x,.int y,.int z,.int w]) (.tuple [.int a,.int b,.int c,.int d])=decide (x=a∧y=b∧z=c∧w=d):=by
 simp only [same,PySem.Spec.sameAll]
 by_cases h1:x=a <;> by_cases h2:y=b <;> by_cases h3:z=c <;> by_cases h4:w=d <;> simp [h1,h2,h3,h4]
theorem neT4 {K:PySem.W.Frag}{H:Hp}{r s:Addr}{x y z w a b c d:Int}{Q:VK}(h1:H r=some (.tup [.int x,.int y,.int z,.int w]))(h2:H s=some (.tup [.int a,.int b,.int c,.int d]))(q:Q (.bl (!decide (x=a∧y=b∧z=c∧w=d))) H):rNeD K (.ref r) (.ref s) H Q :=
 ⟨_,_,.tup (SqT.of h1) (.cons (.int _) (.cons (.int _) (.cons (.int _) (.cons (.int _) .nil)))),.tup (SqT.of h2) (.cons (.int _) (.cons (.int _) (.cons (.int _) (.cons (.int _) .nil)))),rfl,rfl,by simp [noMix,noMixAll],by rw[same4];exact q⟩
theorem zEy {K:PySem.W.Frag}{n i j k:Nat}(h:n≤i)(h':n≤j)(h'':n≤k):zDt n (gTup K 3 (gCons (jG i) (gCons (jG j) (gCons (jG k) gNil)))):=by
 rintro x σ H Q ⟨a,xs,rfl,hq,hl,v,r,rfl,v',r',rfl,v'',r'',rfl,rfl,q⟩
 exact⟨a,_,rfl,hq,hl,v,_,rfl,v',_,rfl,v'',_,rfl,rfl,⟨by simp,fun m hk=>by rw[List.getElem?_set_ne (by omega),List.getElem?_set_ne (by omega),List.getElem?_set_ne (by omega)]⟩,q⟩
structure Mn (K:PySem.W.Frag)(C:Addr)(m q:Str)(st:Stmt)(ps:List Str):Prop where
 ex:∃ (f:Addr)(fd:FuncData),Fun K m q st f fd∧Binds K fd ps []∧Meth K C m f
structure Mf (P:Program)(w:World)(K:PySem.W.Frag)(mg:Str→Option Value)(base:Heap)(k:Nat)(C:Addr)(m:Str)(ps:List Str)(sp:Sp):Prop where
 ex:∃ (f:Addr)(fd:FuncData),FnOk P w K mg base CX0 k f fd ps sp∧Binds K fd ps []∧Meth K C m f
structure Kn (K:PySem.W.Frag)(mg:Str→Option Value)(C:Addr)(x q:Str)(st:Stmt)(ps:List Str):Prop where
 ex:∃ (f:Addr)(fd:FuncData),Fun K "__init__" q st f fd∧Binds K fd ps []∧Mk K C f∧mg x=some (.ref C)
structure Kf (P:Program)(w:World)(K:PySem.W.Frag)(mg:Str→Option Value)(base:Heap)(k:Nat)(C:Addr)(x:Str)(ps:List Str)(sp:Sp):Prop where
 ex:∃ (f:Addr)(fd:FuncData),FnOk P w K mg base CX0 k f fd ps sp∧Binds K fd ps []∧Mk K C f∧mg x=some (.ref C)
theorem Mn.ok {P:Program}{w:World}{K:PySem.W.Frag}{mg:Str→Option Value}{base:Heap}{C:Addr}{m q:Str}{st:Stmt}{N ps:List Str}{k:Nat}{sp:Sp}(D:Mn K C m q st ps)(S:zR N ps (zJ st))(len:∀ vs H Q E,sp vs H Q E→vs.length=ps.length)
  (hbody:∀ (f:Addr)(cdv:Value)(A:Around)(outer:List Env)(s:Shared)(H:Hp)(vs:List V)(Q:VK)(E:XK),zCu k (A.deeper (envOfC q (zJ st) s.heap.objs.size f cdv))→sp vs H Q E →
   ∃ t,PSs (cxOf CX0 P w K mg base N q (zJ st) f cdv A outer s H E).nox (vY st) t∧t { nx:=fun _ H'=>Q .non H',rt:=Q } (start N vs) H):Mf P w K mg base (k+1) C m ps sp:=by
 obtain⟨f,fd,F,b,mt⟩:=D.ex
 exact⟨f,fd,F.ok S len (fun cdv A outer s H vs Q E hr h=>hbody f cdv A outer s H vs Q E hr h),b,mt⟩
theorem Kn.ok {P:Program}{w:World}{K:PySem.W.Frag}{mg:Str→Option Value}{base:Heap}{C:Addr}{x q:Str}{st:Stmt}{N ps:List Str}{k:Nat}{sp:Sp}(D:Kn K mg C x q st ps)(S:zR N ps (zJ st))(len:∀ vs H Q E,sp vs H Q E→vs.length=ps.length)
  (hbody:∀ (f:Addr)(cdv:Value)(A:Around)(outer:List Env)(s:Shared)(H:Hp)(vs:List V)(Q:VK)(E:XK),zCu k (A.deeper (envOfC q (zJ st) s.heap.objs.size f cdv))→sp vs H Q E →
   ∃ t,PSs (cxOf CX0 P w K mg base N q (zJ st) f cdv A outer s H E).nox (vY st) t∧t { nx:=fun _ H'=>Q .non H',rt:=Q } (start N vs) H):Kf P w K mg base (k+1) C x ps sp:=by
 obtain⟨f,fd,F,b,mt⟩:=D.ex
 exact⟨f,fd,F.ok S len (fun cdv A outer s H vs Q E hr h=>hbody f cdv A outer s H vs Q E hr h),b,mt⟩
section
variable {X:Cx}{k:Nat}{C:Addr}{x m:Str}{ps:List Str}{sp:Sp}{e o:Expr}{es:List Expr}{ta:TE}{t:TA}{p pos apos:Pos}
theorem pe_mth {pl:Sem Bool}(he:PE X o ta)(c:Cls X.K C)(D:Mf X.prog X.w X.K X.mg X.base k C m ps sp)(hr:zCu k X.A)(ha:PA X (e::es) t)
  (hst:starEach (e::es) X.env=(false,eval e X.env)::starEach es X.env:=by rfl)(hpl:(backTo pos (starEach es X.env)).any (·.1)=false:=by rfl)
  (ht:eval (.Call (.Attribute o m apos) (e::es) [] pos) X.env=(do
   let ov ← eval o X.env
   standAt apos.atName
   let (f,first) ← holding [ov] (getMethod ov m pl)
   callWith pos f first (backTo pos (starEach (e::es) X.env)) (backToKw pos (keywordEach [] X.env))):=by rfl) :
  PE X (.Call (.Attribute o m apos) (e::es) [] pos) (tMeth C m sp [] E0 ta t):=by
 obtain⟨f,fd,F,hb,hm⟩:=D.ex
 exact pe_meth (pl:=pl) he c hm F hr hb .nil pass0 ha hst hpl ht
theorem pe_mkC (D:Kf X.prog X.w X.K X.mg X.base k C x ps sp)(hr:zCu (k+1) X.A)(hg:Gl X x)(ha:PA X (e::es) t)(hdb:(x == ("__debug__":Str))=false:=by decide)
  (he:starEach (e::es) X.env=(false,eval e X.env)::starEach es X.env:=by rfl)(hpl:(backTo pos (starEach es X.env)).any (·.1)=false:=by rfl) :
  PE X (.Call (.Name x p) (e::es) [] pos) (tMake C sp [] E0 t):=by
 obtain⟨f,fd,F,hb,M,hm⟩:=D.ex
 exact pe_make M F hr hg hm hb .nil pass0 ha hdb he hpl
end
def wZ (H:Hp)(r:Addr)(rows:List (List Int)):Prop:=∃ as:List Addr,H r=some (.lst (as.map V.ref))∧Paired (fun a (x:List Int)=>H a=some (.lst (x.map V.int))) as rows
theorem vN {H H':Hp}(sm:zN H H'){as:List Addr}{rows:List (List Int)}(h:Paired (fun a (x:List Int)=>H a=some (.lst (x.map V.int))) as rows):Paired (fun a (x:List Int)=>H' a=some (.lst (x.map V.int))) as rows:=by
 induction h with
 | nil=>exact .nil
 | cons a _ ih=>exact .cons (sm _ _ a) ih
theorem wZ.same {H H':Hp}(sm:zN H H'){r:Addr}{rows:List (List Int)}(h:wZ H r rows):wZ H' r rows :=
 let ⟨as,h1,h2⟩:=h;⟨as,sm _ _ h1,vN sm h2⟩
theorem zP {α β:Type}{F:α→β→Prop}:∀ {a:List α}{b:List β},Paired F a b→a.length=b.length
 | _,_,.nil=>rfl
 | _,_,.cons _ t=>congrArg (· + 1) (zP t)
theorem wX {as:List Addr}{rows:List (List Int)}{H:Hp}(h:Paired (fun a (x:List Int)=>H a=some (.lst (x.map V.int))) as rows){i:Nat}{x:V}(e:(as.map V.ref)[i]?=some x):∃ (a:Addr)(row:List Int),x=.ref a∧as[i]?=some a∧rows[i]?=some row∧H a=some (.lst (row.map V.int)):=by
 obtain⟨a,rfl,ha⟩:=zFa e
 obtain⟨row,hr,hh⟩:=v9 h ha
 exact⟨a,row,rfl,ha,hr,hh⟩
theorem at_row {as:List Addr}{rows:List (List Int)}{H:Hp}(h:Paired (fun a (x:List Int)=>H a=some (.lst (x.map V.int))) as rows){i:Nat}{row:List Int}(e:rows[i]?=some row):∃ a:Addr,atI (as.map V.ref) ((i:Nat):Int)=some (.ref a)∧H a=some (.lst (row.map V.int)):=by
 have l:=zP h
 have il:i < rows.length:=(List.getElem?_eq_some_iff.mp e).1
 have ha:as[i]?=some (as[i]'(by omega)):=List.getElem?_eq_getElem (by omega)
 obtain⟨row',hr,hh⟩:=v9 h ha
 rw[e] at hr
 cases hr
 exact⟨_,v4 (by rw[List.getElem?_map,ha];rfl),hh⟩
theorem zGv {α β:Type}{F:α→β→Prop}:∀ {a:List α}{b:List β}{x:α}{y:β}(c:Nat),Paired F a b→F x y→Paired F (a.set c x) (b.set c y)
 | _,_,_,_,_,.nil,_=>.nil
 | _,_,_,_,0,.cons _ t,h=>.cons h t
 | _,_,_,_,c+1,.cons q t,h=>.cons q (zGv c t h)
theorem wZ.put {H:Hp}{D a:Addr}{as:List Addr}{rows:List (List Int)}{l:List Int}{c:Nat}(hD:H D=some (.lst (as.map V.ref)))(pa:Paired (fun a (x:List Int)=>H a=some (.lst (x.map V.int))) as rows)(ne:as≠[])(ha:H a=some (.lst (l.map V.int))) :
  wZ (upd H D (.lst ((as.map V.ref).set c (.ref a)))) D (rows.set c l):=by
 have nD:∀ (b:Addr)(x:List Int),H b=some (.lst (x.map V.int))→b≠D:=fun b x hb=>zCf hb hD fun z=>by
  injection z with z
  cases as with
  | nil=>exact ne rfl
  | cons a0 as0=>cases x with
   | nil=>cases z
   | cons y ys=>injection z with z1;cases z1
 have old:Paired (fun a (x:List Int)=>upd H D (.lst ((as.map V.ref).set c (.ref a))) a=some (.lst (x.map V.int))) as rows→True:=fun _=>trivial
 have go:∀ {as':List Addr}{rows':List (List Int)}{o:HO},Paired (fun a (x:List Int)=>H a=some (.lst (x.map V.int))) as' rows'→Paired (fun a (x:List Int)=>upd H D o a=some (.lst (x.map V.int))) as' rows':=fun {as' rows' o} p=>by
  induction p with
  | nil=>exact .nil
  | cons h _ ih=>exact .cons ((vA (nD _ _ h)).trans h) ih
 refine⟨as.set c a,by rw[zD,List.map_set],zGv c (go pa) ((vA (nD _ _ ha)).trans ha)⟩
section
variable {K:PySem.W.Frag}{a b:Addr}{g:TG}{te:TE}{σ':St}{H:Hp}{Q:VK}
theorem v3 {xs:List V}(zs:List Int)(hlen:zs.length=xs.length)(hz:xs.length≤20000)(hS:SqL K H a xs)
  (hs:∀ (i:Nat) x H2,xs[i]?=some x→zN H H2→∀ R:VK,(∀ H4 z,zN H2 H4→zs[i]?=some z→R (.int z) H4)→g x σ' H2 fun σ2 H3=>te σ2 H3 R)
  (hd:∀ D H2,zN H H2→H D=none→H2 D=some (.lst (zs.map V.int))→Q (.ref D) H2):jK (Itl K a) g tYes te σ' Q H:=by
 refine zCk (K:=K) (xs:=xs) (fun i rs H2=>zN H H2∧rs=(zs.take i).map V.int) ⟨zN.refl H,by simp⟩ (fun i rs H2 _ z=>z.1.seq hS)
  (fun i rs H2 hi z=>by rw[z.2];simp only [List.length_map,List.length_take];exact zCq (by omega)) ?_ ?_
 ·rintro i x rs H2 hx ⟨sm,rfl⟩
  exact hs i x H2 hx sm (fun y H4=>zN H H4∧(zs.take i).map V.int ++ [y]=(zs.take (i+1)).map V.int) fun H4 z s4 ez=>⟨sm.trans s4,by rw[j4 ez]⟩
 ·rintro rs H2 ⟨sm,rfl⟩ D hD
  rw[zAt hlen]
  exact hd D _ (zG sm hD) (sm.free hD) zD
theorem zBd {xs ys:List V}(zs:List Int)(hl2:xs.length=ys.length)(hlen:zs.length=xs.length)(hz:xs.length≤20000)(hS:SqL K H a xs)(hS2:SqL K H b ys)
  (hs:∀ (i:Nat) x y H2 p,xs[i]?=some x→ys[i]?=some y→zN H H2→H2 p=none→∀ R:VK,(∀ H4 z,zN H2 H4→zs[i]?=some z→R (.int z) H4)→g (.ref p) σ' (upd H2 p (.tup [x,y])) fun σ2 H3=>te σ2 H3 R)
  (hd:∀ D H2,zN H H2→H D=none→H2 D=some (.lst (zs.map V.int))→Q (.ref D) H2):jK (Itz K a b) g tYes te σ' Q H:=by
 refine comp_zip (K:=K) (xs:=xs) (ys:=ys) hl2 (fun i rs H2=>zN H H2∧rs=(zs.take i).map V.int) ⟨zN.refl H,by simp⟩ (fun i rs H2 _ z=>⟨z.1.seq hS,z.1.seq hS2⟩)
  (fun i rs H2 hi z=>by rw[z.2];simp only [List.length_map,List.length_take];exact zCq (by omega)) ?_ ?_
 ·rintro i x y rs H2 p hx hy ⟨sm,rfl⟩ hp
  exact hs i x y H2 p hx hy sm hp (fun y H4=>zN H H4∧(zs.take i).map V.int ++ [y]=(zs.take (i+1)).map V.int) fun H4 z s4 ez=>⟨sm.trans s4,by rw[j4 ez]⟩
 ·rintro rs H2 ⟨sm,rfl⟩ D hD
  rw[zAt hlen]
  exact hd D _ (zG sm hD) (sm.free hD) zD
theorem comp_toZB {xs ys:List V}(zs:List Bool)(hl2:xs.length=ys.length)(hlen:zs.length=xs.length)(hz:xs.length≤20000)(hS:SqL K H a xs)(hS2:SqL K H b ys)
  (hs:∀ (i:Nat) x y H2 p,xs[i]?=some x→ys[i]?=some y→zN H H2→H2 p=none→∀ R:VK,(∀ H4 z,zN H2 H4→zs[i]?=some z→R (.bl z) H4)→g (.ref p) σ' (upd H2 p (.tup [x,y])) fun σ2 H3=>te σ2 H3 R)
  (hd:∀ D H2,zN H H2→H D=none→H2 D=some (.lst (zs.map V.bl))→Q (.ref D) H2):jK (Itz K a b) g tYes te σ' Q H:=by
 refine comp_zip (K:=K) (xs:=xs) (ys:=ys) hl2 (fun i rs H2=>zN H H2∧rs=(zs.take i).map V.bl) ⟨zN.refl H,by simp⟩ (fun i rs H2 _ z=>⟨z.1.seq hS,z.1.seq hS2⟩)
  (fun i rs H2 hi z=>by rw[z.2];simp only [List.length_map,List.length_take];exact zCq (by omega)) ?_ ?_
 ·rintro i x y rs H2 p hx hy ⟨sm,rfl⟩ hp
  exact hs i x y H2 p hx hy sm hp (fun y H4=>zN H H4∧(zs.take i).map V.bl ++ [y]=(zs.take (i+1)).map V.bl) fun H4 z s4 ez=>⟨sm.trans s4,by rw[List.take_add_one,ez,List.map_append];rfl⟩
 ·rintro rs H2 ⟨sm,rfl⟩ D hD
  have:(zs.take xs.length).map V.bl=zs.map V.bl:=by rw[← hlen,List.take_length]
  rw[this]
  exact hd D _ (zG sm hD) (sm.free hD) zD
theorem comp_toV {xs:List V}(zs:List V)(hlen:zs.length=xs.length)(hz:xs.length≤20000)(hS:SqL K H a xs)
  (hs:∀ (i:Nat) x H2,xs[i]?=some x→zN H H2→∀ R:VK,(∀ H4 z,zN H2 H4→zs[i]?=some z→R z H4)→g x σ' H2 fun σ2 H3=>te σ2 H3 R)
  (hd:∀ D H2,zN H H2→H D=none→H2 D=some (.lst zs)→Q (.ref D) H2):jK (Itl K a) g tYes te σ' Q H:=by
 refine zCk (K:=K) (xs:=xs) (fun i rs H2=>zN H H2∧rs=zs.take i) ⟨zN.refl H,by simp⟩ (fun i rs H2 _ z=>z.1.seq hS)
  (fun i rs H2 hi z=>by rw[z.2];simp only [List.length_take];exact zCq (by omega)) ?_ ?_
 ·rintro i x rs H2 hx ⟨sm,rfl⟩
  exact hs i x H2 hx sm (fun y H4=>zN H H4∧zs.take i ++ [y]=zs.take (i+1)) fun H4 z s4 ez=>⟨sm.trans s4,by rw[List.take_add_one,ez];rfl⟩
 ·rintro rs H2 ⟨sm,rfl⟩ D hD
  have:zs.take xs.length=zs:=by rw[← hlen,List.take_length]
  rw[this]
  exact hd D _ (zG sm hD) (sm.free hD) zD
theorem zCm {xs:List V}(zs:List (List Int))(hlen:zs.length=xs.length)(hz:xs.length≤20000)(hS:SqL K H a xs)
  (hs:∀ (i:Nat) x H2,xs[i]?=some x→zN H H2→∀ R:VK,(∀ H4 c z,zN H2 H4→zs[i]?=some z→H4 c=some (.lst (z.map V.int))→R (.ref c) H4)→g x σ' H2 fun σ2 H3=>te σ2 H3 R)
  (hd:∀ D H2,zN H H2→H D=none→wZ H2 D zs→Q (.ref D) H2):jK (Itl K a) g tYes te σ' Q H:=by
 refine zCk (K:=K) (xs:=xs) (fun i rs H2=>zN H H2∧∃ as:List Addr,rs=as.map V.ref∧Paired (fun a (x:List Int)=>H2 a=some (.lst (x.map V.int))) as (zs.take i)) ⟨zN.refl H,[],rfl,.nil⟩ (fun i rs H2 _ z=>z.1.seq hS)
  (fun i rs H2 hi z=>by obtain⟨as,e,pa⟩:=z.2;rw[e,List.length_map,zP pa,List.length_take];exact zCq (by omega)) ?_ ?_
 ·rintro i x rs H2 hx ⟨sm,as,rfl,pa⟩
  exact hs i x H2 hx sm (fun y H4=>zN H H4∧∃ as':List Addr,as.map V.ref ++ [y]=as'.map V.ref∧Paired (fun a (x:List Int)=>H4 a=some (.lst (x.map V.int))) as' (zs.take (i+1))) fun H4 c z s4 ez hc=>⟨sm.trans s4,as ++ [c],by rw[List.map_append];rfl,by
   rw[List.take_add_one,ez];exact L2.Paired.appP (vN s4 pa) (.cons hc .nil)⟩
 ·rintro rs H2 ⟨sm,as,rfl,pa⟩ D hD
  have:zs.take xs.length=zs:=by rw[← hlen,List.take_length]
  rw[this] at pa
  exact hd D _ (zG sm hD) (sm.free hD) ⟨as,zD,vN (zG (zN.refl _) hD) pa⟩
theorem comp_toE {xs:List V}(zs:List (List Int))(hlen:zs.length=xs.length)(hz:xs.length≤20000)(hS:SqL K H a xs)
  (hs:∀ (i:Nat) x H2 p,xs[i]?=some x→zN H H2→H2 p=none→∀ R:VK,(∀ H4 c z,zN H2 H4→zs[i]?=some z→H4 c=some (.lst (z.map V.int))→R (.ref c) H4)→g (.ref p) σ' (upd H2 p (.tup [.int i,x])) fun σ2 H3=>te σ2 H3 R)
  (hd:∀ D H2,zN H H2→H D=none→wZ H2 D zs→Q (.ref D) H2):jK (Ite K a) g tYes te σ' Q H:=by
 refine comp_enum (K:=K) (xs:=xs) (fun i rs H2=>zN H H2∧∃ as:List Addr,rs=as.map V.ref∧Paired (fun a (x:List Int)=>H2 a=some (.lst (x.map V.int))) as (zs.take i)) ⟨zN.refl H,[],rfl,.nil⟩ (fun i rs H2 _ z=>z.1.seq hS)
  (fun i rs H2 hi z=>by obtain⟨as,e,pa⟩:=z.2;rw[e,List.length_map,zP pa,List.length_take];exact zCq (by omega)) ?_ ?_
 ·rintro i x rs H2 p hx ⟨sm,as,rfl,pa⟩ hp
  exact hs i x H2 p hx sm hp (fun y H4=>zN H H4∧∃ as':List Addr,as.map V.ref ++ [y]=as'.map V.ref∧Paired (fun a (x:List Int)=>H4 a=some (.lst (x.map V.int))) as' (zs.take (i+1))) fun H4 c z s4 ez hc=>⟨sm.trans s4,as ++ [c],by rw[List.map_append];rfl,by
   rw[List.take_add_one,ez];exact L2.Paired.appP (vN s4 pa) (.cons hc .nil)⟩
 ·rintro rs H2 ⟨sm,as,rfl,pa⟩ D hD
  have:zs.take xs.length=zs:=by rw[← hlen,List.take_length]
  rw[this] at pa
  exact hd D _ (zG sm hD) (sm.free hD) ⟨as,zD,vN (zG (zN.refl _) hD) pa⟩
theorem comp_toN {n:Nat}(zs:List (List Int))(hlen:zs.length=n)(hz:n≤20000)
  (hs:∀ (i:Nat) H2,i < n→zN H H2→∀ R:VK,(∀ H4 c z,zN H2 H4→zs[i]?=some z→H4 c=some (.lst (z.map V.int))→R (.ref c) H4)→g (.int i) σ' H2 fun σ2 H3=>te σ2 H3 R)
  (hd:∀ D H2,zN H H2→H D=none→wZ H2 D zs→Q (.ref D) H2):jK (Itr 0 n) g tYes te σ' Q H:=by
 refine comp_range0 (fun i rs H2=>zN H H2∧∃ as:List Addr,rs=as.map V.ref∧Paired (fun a (x:List Int)=>H2 a=some (.lst (x.map V.int))) as (zs.take i)) ⟨zN.refl H,[],rfl,.nil⟩
  (fun i rs H2 hi z=>by obtain⟨as,e,pa⟩:=z.2;rw[e,List.length_map,zP pa,List.length_take];exact zCq (by omega)) ?_ ?_
 ·rintro i rs H2 hi ⟨sm,as,rfl,pa⟩
  exact hs i H2 hi sm (fun y H4=>zN H H4∧∃ as':List Addr,as.map V.ref ++ [y]=as'.map V.ref∧Paired (fun a (x:List Int)=>H4 a=some (.lst (x.map V.int))) as' (zs.take (i+1))) fun H4 c z s4 ez hc=>⟨sm.trans s4,as ++ [c],by rw[List.map_append];rfl,by
   rw[List.take_add_one,ez];exact L2.Paired.appP (vN s4 pa) (.cons hc .nil)⟩
 ·rintro rs H2 ⟨sm,as,rfl,pa⟩ D hD
  have:zs.take n=zs:=by rw[← hlen,List.take_length]
  rw[this] at pa
  exact hd D _ (zG sm hD) (sm.free hD) ⟨as,zD,vN (zG (zN.refl _) hD) pa⟩
end
end L2
namespace L2
open PySem PySem.Spec PyProof.Rows PySem.SeqAt
theorem zEi {a b:Int}(h1:-1000000000000≤a)(h2:a≤1000000000000):IntMulOk a b:=IntMulOk.of_left (intBits_le_64 (by omega) (by omega))
abbrev dP (t:Int×Int):PyData:=.tuple [.int t.1,.int t.2]
theorem rd_prs {K:PySem.W.Frag}{H:Hp}:∀ {as:List Addr}{ts:List (Int×Int)},Paired (fun a (x:Int×Int)=>H a=some (.tup [.int x.1,.int x.2])) as ts→RdDs K H (as.map V.ref) (ts.map dP)
 | _,_,.nil=>.nil
 | _,_,.cons h t=>.cons (.tup (SqT.of h) (.cons (.int _) (.cons (.int _) .nil))) (rd_prs t)
theorem lay_prs:∀ ts:List (Int×Int),PyData.canLayAll0 (ts.map dP)=true
 | []=>by simp [PyData.canLayAll0]
 | t::r=>by simp [PyData.canLayAll0,PyData.canLay0,lay_prs r]
theorem dep_prs:∀ ts:List (Int×Int),PyData.depthAll (ts.map dP)≤2
 | []=>by simp [PyData.depthAll]
 | t::r=>by
  have:=dep_prs r
  simp only [List.map_cons,PyData.depthAll,PyData.depth]
  omega
theorem shp_prs (ts:List (Int×Int)):shaped (.list (ts.map dP))=true:=by
 have h1:=dep_prs ts
 unfold shaped
 rw[Bool.and_eq_true]
 exact⟨by simp only [PyData.canLay0];exact lay_prs ts,decide_eq_true (by simp only [PyData.depth];omega)⟩
theorem mix_prs:∀ ts us:List (Int×Int),noMixAll (ts.map dP) (us.map dP)=true
 | [],[]=>by simp [noMixAll]
 | [],_::_=>by simp [noMixAll]
 | _::_,[]=>by simp [noMixAll]
 | t::r,u::q=>by simp [noMixAll,noMix,mix_prs r q]
theorem sam_prs:∀ ts us:List (Int×Int),PySem.Spec.sameAll (ts.map dP) (us.map dP)=decide (ts=us)
 | [],[]=>by simp [PySem.Spec.sameAll]
 | [],_::_=>by simp [PySem.Spec.sameAll]
 | _::_,[]=>by simp [PySem.Spec.sameAll]
 | (a,b)::r,(c,d)::q=>by
  simp only [List.map_cons,PySem.Spec.sameAll,PySem.Spec.same,sam_prs r q]
  by_cases h1:a=c <;> by_cases h2:b=d <;> by_cases h3:r=q <;> simp [h1,h2,h3]
theorem nePr_of {K:PySem.W.Frag}{H:Hp}{a b:Addr}{ts us:List (Int×Int)}{Q:VK}(h1:PrAt H a ts)(h2:PrAt H b us)(q:Q (.bl (!decide (ts=us))) H):rNeD K (.ref a) (.ref b) H Q:=by
 obtain⟨as,e1,p1⟩:=h1
 obtain⟨bs,e2,p2⟩:=h2
 exact⟨_,_,.lst (SqL.of e1) (rd_prs p1),.lst (SqL.of e2) (rd_prs p2),shp_prs ts,shp_prs us,by simp only [noMix];exact mix_prs ts us,by simp only [same];rw[sam_prs];exact q⟩
end L2
namespace L2
open PySem PySem.Spec PyProof.Rows PySem.SeqAt
theorem call_list_ofF {X:Cx}{K:PySem.W.Frag}(h:X.K=K):zEb X (.type "list") (fun xs H Q=>∃ p ys,xs=[.ref p]∧(SqL K H p ys∨SqT K H p ys)∧∀ l,H l=none→Q (.ref l) (upd H l (.lst ys))):=by subst h;exact zDk
theorem pi_listF {X:Cx}{K:PySem.W.Frag}{tg e:Expr}{ta:TE}(h:X.K=K)(he:PE X e ta):PI X tg e (iList K ta):=by subst h;exact vS he
section
variable {K:PySem.W.Frag}{a b:Addr}{g:TG}{te:TE}{σ':St}{H:Hp}{Q:VK}
theorem comp_toM {lo:Int}{n:Nat}(zs:List Int)(hlen:zs.length=n)(hz:n≤20000)
  (hs:∀ (i:Nat) H2,i < n→zN H H2→∀ R:VK,(∀ H4 z,zN H2 H4→zs[i]?=some z→R (.int z) H4)→g (.int (lo+i)) σ' H2 fun σ2 H3=>te σ2 H3 R)
  (hd:∀ D H2,zN H H2→H D=none→H2 D=some (.lst (zs.map V.int))→Q (.ref D) H2):jK (Itr lo n) g tYes te σ' Q H:=by
 refine zGo (fun i rs H2=>zN H H2∧rs=(zs.take i).map V.int) ⟨zN.refl H,by simp⟩
  (fun i rs H2 hi z=>by rw[z.2];simp only [List.length_map,List.length_take];exact zCq (by omega)) ?_ ?_
 ·rintro i rs H2 hi ⟨sm,rfl⟩
  exact hs i H2 hi sm (fun y H4=>zN H H4∧(zs.take i).map V.int ++ [y]=(zs.take (i+1)).map V.int) fun H4 z s4 ez=>⟨sm.trans s4,by rw[j4 ez]⟩
 ·rintro rs H2 ⟨sm,rfl⟩ D hD
  rw[zAt hlen]
  exact hd D _ (zG sm hD) (sm.free hD) zD
end
end L2
namespace L2
open PySem PySem.Spec PyProof.Rows PySem.SeqAt
section
variable {K:PySem.W.Frag}{x q m:Str}{st:Stmt}{f C:Addr}{T pm cd:Value}{h:Heap}{mg:Str→Option Value}{ps:List Str}
def BA (x q:Str)(st:Stmt)(ps:List Str):Prop:=∀ (kV doc pm:Value)(an:Option Addr)(cdv ct:Value)(us:List Value),us.length=ps.length→bindArgs (PySem.W.fnOf x q (wA st) (vY st) (zJ st) .none kV doc pm an cdv ct) ⟨us,[]⟩=pure (ps.zip us)
theorem ba1 (h:ps.length=1)(e:∀ (kV doc pm:Value)(an:Option Addr)(cdv ct u0:Value),bindArgs (PySem.W.fnOf x q (wA st) (vY st) (zJ st) .none kV doc pm an cdv ct) ⟨[u0],[]⟩=pure (ps.zip [u0])):BA x q st ps:=fun _ _ _ _ _ _ us hl=>match us,hl.trans h with | [_],_=>e _ _ _ _ _ _ _
theorem ba2 (h:ps.length=2)(e:∀ (kV doc pm:Value)(an:Option Addr)(cdv ct u0 u1:Value),bindArgs (PySem.W.fnOf x q (wA st) (vY st) (zJ st) .none kV doc pm an cdv ct) ⟨[u0,u1],[]⟩=pure (ps.zip [u0,u1])):BA x q st ps:=fun _ _ _ _ _ _ us hl=>match us,hl.trans h with | [_,_],_=>e _ _ _ _ _ _ _ _
theorem ba3 (h:ps.length=3)(e:∀ (kV doc pm:Value)(an:Option Addr)(cdv ct u0 u1 u2:Value),bindArgs (PySem.W.fnOf x q (wA st) (vY st) (zJ st) .none kV doc pm an cdv ct) ⟨[u0,u1,u2],[]⟩=pure (ps.zip [u0,u1,u2])):BA x q st ps:=fun _ _ _ _ _ _ us hl=>match us,hl.trans h with | [_,_,_],_=>e _ _ _ _ _ _ _ _ _
theorem ba4 (h:ps.length=4)(e:∀ (kV doc pm:Value)(an:Option Addr)(cdv ct u0 u1 u2 u3:Value),bindArgs (PySem.W.fnOf x q (wA st) (vY st) (zJ st) .none kV doc pm an cdv ct) ⟨[u0,u1,u2,u3],[]⟩=pure (ps.zip [u0,u1,u2,u3])):BA x q st ps:=fun _ _ _ _ _ _ us hl=>match us,hl.trans h with | [_,_,_,_],_=>e _ _ _ _ _ _ _ _ _ _
theorem ba5 (h:ps.length=5)(e:∀ (kV doc pm:Value)(an:Option Addr)(cdv ct u0 u1 u2 u3 u4:Value),bindArgs (PySem.W.fnOf x q (wA st) (vY st) (zJ st) .none kV doc pm an cdv ct) ⟨[u0,u1,u2,u3,u4],[]⟩=pure (ps.zip [u0,u1,u2,u3,u4])):BA x q st ps:=fun _ _ _ _ _ _ us hl=>match us,hl.trans h with | [_,_,_,_,_],_=>e _ _ _ _ _ _ _ _ _ _ _
def Fa (K:PySem.W.Frag)(x:Str)(st:Stmt):Prop:=∃ (f:Addr)(fd:FuncData),Fun K x x st f fd∧PySem.W.nsIn K mainGlobals x=some (some (.ref f))
theorem Fa.of (a:PySem.W.nsIn K mainGlobals x=some (some (.ref f)))(l:K.lookup f=some ⟨T,none,.func (PySem.W.fnOf x x (wA st) (vY st) (zJ st) .none .none .none pm none cd .none),⟨[]⟩⟩)(c:PySem.W.codeIn K cd x=true)(k:PySem.W.keepIn K (.ref f)=true):Fa K x st:=⟨f,_,fun_mk l c k,a⟩
theorem Fa.dn (D:Fa K x st)(X:K.In h)(G:h.Ns mainGlobals mg)(b:BA x x st ps):Dn K mg x st ps :=
 let ⟨f,fd,F,a⟩:=D
 ⟨f,fd,F,F.binds b,PySem.W.mg_of X G a⟩
theorem Fa.law (D:Fa K x st)(X:K.In h)(G:h.Ns mainGlobals mg)(e:mg x=some (.ref f)):∃ fd,Fun K x x st f fd:=by
 obtain⟨g,fd,F,a⟩:=D
 have e':=e.symm.trans (PySem.W.mg_of X G a)
 cases e'
 exact⟨fd,F⟩
theorem Fun.to {fd:FuncData}(F:Fun K x q st f fd)(b:BA x q st ["script"])(s:Shared)(v:Value):BindsTo s fd ⟨[v],[]⟩ [("script",v)]:=by
 obtain⟨oc,od,kV,doc,pm,an,cdv,ct,osl,rfl,lk,hcd⟩:=F.ex
 exact .of_eq (b kV doc pm an cdv ct [v] rfl)
def Fm (K:PySem.W.Frag)(C:Addr)(m q:Str)(st:Stmt):Prop:=∃ (f:Addr)(fd:FuncData),Fun K m q st f fd∧PySem.W.findIn K (.ref C) m=some (some (.ref f))∧PySem.W.isFn K (.ref f)=true∧PySem.W.keepIn K (.ref f)=true
theorem Fm.of (a:PySem.W.findIn K (.ref C) m=some (some (.ref f)))(i:PySem.W.isFn K (.ref f)=true)(l:K.lookup f=some ⟨T,none,.func (PySem.W.fnOf m q (wA st) (vY st) (zJ st) .none .none .none pm none cd .none),⟨[]⟩⟩)(c:PySem.W.codeIn K cd q=true)(k:PySem.W.keepIn K (.ref f)=true):Fm K C m q st:=⟨f,_,fun_mk l c k,a,i,k⟩
theorem Fm.mn (D:Fm K C m q st)(b:BA m q st ps):Mn K C m q st ps :=
 let ⟨f,fd,F,a,i,k⟩:=D
 ⟨f,fd,F,F.binds b,⟨a,i,k⟩⟩
theorem Fm.kn (D:Fm K C "__init__" q st)(mk:PySem.W.makesIn K C=true)(kc:PySem.W.keepIn K (.ref C)=true)(e:mg x=some (.ref C))(b:BA "__init__" q st ps):Kn K mg C x q st ps :=
 let ⟨f,fd,F,a,i,k⟩:=D
 ⟨f,fd,F,F.binds b,⟨mk,a,i,kc⟩,e⟩
end
end L2
namespace L2
open PySem PySem.Spec PyProof.Rows
theorem sizeD (n:Nat):Builtin.Range.rangeSize ((n:Int)-1) (-1) (-1)=(n:Nat):=by
 unfold Builtin.Range.rangeSize
 rw[if_neg (by decide)]
 split
 ·have:((n:Int)-1 - -1-1) / - -1=(n:Int)-1:=by
   rw[show (- -1:Int)=1 by decide,Int.ediv_one];omega
  omega
 ·omega
section
variable {X:Cx}{tg:Expr}
def iRngD (ta:TA):TI:=fun σ H R=>ta σ H fun vs H1=>∃ n:Nat,vs=[.int ((n:Int)-1),.int (-1),.int (-1)]∧n≤1000000∧R (Itr3 ((n:Int)-1) (-1) n) H1
theorem pi_rangeD {a b c:Expr}{ta:TA}{p pos:Pos}(hg:Gl X "range")(hm:X.mg "range"=none)(ha:PA X [a,b,c] ta)(he:starEach [a,b,c] X.env=(false,eval a X.env)::starEach [b,c] X.env:=by rfl)(hpl:(backTo pos (starEach [b,c] X.env)).any (·.1)=false:=by rfl) :
  PI X tg (.Call (.Name "range" p) [a,b,c] [] pos) (iRngD ta):=by
 intro pins s σ H R I h
 refine Call_ (zDe I hg hm boot_range (PyProof.Rows.callWith_type1 (thn (ha pos pins s σ H _ I h) fun us s1 ⟨vs,H1,I1,r1,q1⟩=>?_) he hpl))
 obtain⟨n,e,n1,q⟩:=q1
 subst e
 cases r1 with
 | cons r rr =>
  cases rr with
  | cons r' rr =>
   cases rr with
   | cons r'' rr =>
    cases rr
    obtain⟨t,rfl⟩:=r
    obtain⟨t',rfl⟩:=r'
    obtain⟨t'',rfl⟩:=r''
    obtain⟨i,hi⟩:∃ i:Int,i=(n:Int)-1:=⟨_,rfl⟩
    have sz:=sizeD n
    rw[← hi] at sz q ⊢
    refine call_range_3 (by omega) ?_ (.inl (PyProof.noPylong_small (by omega)))
    have sm:Builtin.Range.small i (-1) (-1)=true:=by
     unfold Builtin.Range.small
     rw[sz]
     simp only [Builtin.Range.rangeFitsLong,Bool.and_eq_true,Bool.or_eq_true,decide_eq_true_eq,beq_iff_eq,if_true,gt_iff_lt]
     have c1:¬ ((0:Int) < -1):=by decide
     simp only [c1,if_false]
     exact⟨by omega,.inr (by decide)⟩
    refine wpAny_pyIter_range (IsRange.new ..) sm ?_
    have I2:Inv X pins σ H1 { s1 with heap:=s1.heap.push { cls:=.type "range",data:=.fields #[.int i t,.int (-1) t',.int (-1) t''] },toks:=s1.toks }:=I1.kept fun b o e=>Heap.get?_push_of_some _ e
    refine⟨(s1.heap.push { cls:=.type "range",data:=.fields #[.int i t,.int (-1) t',.int (-1) t''] }).objs.size,[(s1.heap.push { cls:=.type "range",data:=.fields #[.int i t,.int (-1) t',.int (-1) t''] }).objs.size],_,_,H1,rfl,
     I2.kept (t':=s1.toks) fun b o e=>Heap.get?_push_of_some _ e,turn_range3 _ i (-1) n,?_,fun b hb=>?_,q⟩
    ·have e1:i+((0:Nat):Int)*(-1)=i:=by simp
     have e2:((n:Nat):Int)-((0:Nat):Int)=Builtin.Range.rangeSize i (-1) (-1):=by rw[sz];simp
     show IsRangeIter _ _ (i+((0:Nat):Int)*(-1)) (((n:Nat):Int)-((0:Nat):Int)) (-1)
     rw[e1,e2]
     exact Heap.get?_push_size _ rfl
    ·have e:b=(s1.heap.push { cls:=.type "range",data:=.fields #[.int i t,.int (-1) t',.int (-1) t''] }).objs.size:=by simpa using hb
     subst e
     exact I2.fpOk (Nat.le_refl _) (I2.hok.fresh (Nat.le_refl _))
end
end L2
namespace L2
open PySem PySem.Spec PyProof.Rows PySem.SeqAt
section
variable {X:Cx}{ev:Expr}{a b:Str}{i:Int}{ja jb}{pa pb pf pos:Pos}
end
end L2
namespace L2
open PySem PySem.Spec PyProof.Rows
section
variable {X:Cx}{e:Expr}{te:TE}{lo:Option Expr}{tl:TO}{pos p2 p3:Pos}
end
end L2
namespace Pt
def NoDiv (m b:Int):Prop:=∀ d,2≤d→d < b→¬ d∣m
def Prm (p:Int):Prop:=2≤p∧∀ d,2≤d→d < p→¬ d∣p
def IsPow (p q:Int):Prop:=∃ e:Nat,q=p^(e+1)
def Prd:List (Int×Int)→Int
 | []=>1
 | a::r=>a.2*Prd r
theorem pow1 (a:Int):a^(0+1)=a:=by rw[Int.pow_succ,Int.pow_zero,Int.one_mul]
theorem zBf:∀ (a b:List (Int×Int)),Prd (a ++ b)=Prd a*Prd b
 | [],b=>by simp [Prd]
 | x::r,b=>by simp [Prd,zBf r b,Int.mul_assoc]
structure Row (x:Int×Int):Prop where
 pr:Prm x.1
 pw:IsPow x.1 x.2
structure PInv (n:Int)(ps:List (Int×Int))(left p:Int):Prop where
 prd:Prd ps*left=n
 nod:NoDiv left p
 row:∀ x∈ps,Row x
 low:∀ x∈ps,x.1 < p
 srt:ps.Pairwise fun a b=>a.1 < b.1
structure Parts (n:Int)(ps:List (Int×Int)):Prop where
 prd:Prd ps=n
 row:∀ x∈ps,Row x
 srt:ps.Pairwise fun a b=>a.1 < b.1
theorem start (n:Int):PInv n [] n 2 :=
 ⟨by simp [Prd],fun d h1 h2=>by omega,fun x h=>(nomatch h),fun x h=>(nomatch h),List.Pairwise.nil⟩
structure QInv (m p q:Int):Prop where
 pos:1≤q
 pw:∃ e:Nat,q=p^e
 dv:q∣m
theorem q0 (m p:Int):QInv m p 1:=⟨by omega,⟨0,by simp⟩,Int.one_dvd m⟩
theorem q1 {m p q:Int}(hp:2≤p)(h:QInv m p q)(d:m%(q*p)=0):QInv m p (q*p):=by
 obtain⟨h1,⟨e,he⟩,h3⟩:=h
 have:=Int.mul_le_mul_of_nonneg_left hp (show 0≤q by omega)
 exact⟨by omega,⟨e+1,by rw[he,Int.pow_succ]⟩,Int.dvd_of_emod_eq_zero d⟩
theorem q_le {m p q:Int}(hm:1≤m)(h:QInv m p q):q≤m:=Int.le_of_dvd (by omega) h.dv
theorem q_grow {p q:Int}(hp:2≤p)(h:1≤q):q < q*p:=by
 have:=Int.mul_le_mul_of_nonneg_left hp (show 0≤q by omega)
 omega
structure QEnd (m p q:Int):Prop where
 inv:QInv m p q
 no:¬ q*p∣m
theorem q2 {m p q:Int}(h:QInv m p q)(d:¬ m%(q*p)=0):QEnd m p q:=⟨h,fun z=>d (Int.emod_eq_zero_of_dvd z)⟩
theorem turnB {n:Int}{ps:List (Int×Int)}{left p q:Int}(h:PInv n ps left p)(hq:QEnd left p q)(h1:¬ q > 1):PInv n ps left (p+1):=by
 have e:q=1:=by have:=hq.inv.pos;omega
 have no:¬ p∣left:=by have:=hq.no;rw[e,Int.one_mul] at this;exact this
 refine⟨h.prd,fun d h2 h3=>?_,h.row,fun x hx=>by have:=h.low x hx;omega,h.srt⟩
 by_cases c:d=p
 ·rw[c];exact no
 ·exact h.nod d h2 (by omega)
theorem turnA {n:Int}{ps:List (Int×Int)}{left p q:Int}(hp:2≤p)(h:PInv n ps left p)(hq:QEnd left p q)(h1:q > 1):PInv n (ps ++ [(p,q)]) (left/q) (p+1):=by
 obtain⟨⟨q1,⟨e,he⟩,⟨c,hc⟩⟩,no⟩:=hq
 have ec:left/q=c:=by rw[hc];exact Int.mul_ediv_cancel_left c (by omega)
 cases e with
 | zero=>rw[he] at h1;simp at h1
 | succ e =>
  have pq:p∣q:=by rw[he,Int.pow_succ];exact Int.dvd_mul_left _ _
  have pl:p∣left:=Int.dvd_trans pq ⟨c,hc⟩
  have cl:c∣left:=⟨q,by rw[hc,Int.mul_comm]⟩
  have prm:Prm p:=⟨hp,fun d h2 h3 z=>h.nod d h2 h3 (Int.dvd_trans z pl)⟩
  refine⟨?_,?_,?_,?_,?_⟩
  ·rw[zBf,ec];simp only [Prd,Int.mul_one]
   rw[Int.mul_assoc,← hc];exact h.prd
  ·rw[ec]
   intro d h2 h3 z
   by_cases k:d=p
   ·apply no
    obtain⟨f,hf⟩:=z
    exact⟨f,by rw[hc,hf,k,Int.mul_assoc]⟩
   ·exact h.nod d h2 (by omega) (Int.dvd_trans z cl)
  ·intro x hx
   rcases List.mem_append.mp hx with hx | hx
   ·exact h.row x hx
   ·obtain rfl:=List.mem_singleton.mp hx
    exact⟨prm,⟨e,he⟩⟩
  ·intro x hx
   rcases List.mem_append.mp hx with hx | hx
   ·have:=h.low x hx;omega
   ·obtain rfl:=List.mem_singleton.mp hx
    show p < p+1;omega
  ·rw[List.pairwise_append]
   refine⟨h.srt,List.pairwise_singleton _ _,fun a ha b hb=>?_⟩
   obtain rfl:=List.mem_singleton.mp hb
   exact h.low a ha
theorem left_pos {left q:Int}(h:1≤left)(hd:q∣left)(hq:1≤q):1≤left/q∧left/q≤left:=by
 obtain⟨c,hc⟩:=hd
 have ec:left/q=c:=by rw[hc];exact Int.mul_ediv_cancel_left c (by omega)
 rw[ec]
 have cp:1≤c:=by
  rcases Int.lt_or_le 0 c with z | z
  ·omega
  ·have:=Int.mul_le_mul_of_nonneg_left z (show 0≤q by omega)
   omega
 have:=Int.mul_le_mul_of_nonneg_right hq (show 0≤c by omega)
 omega
theorem prm_left {left p:Int}(hp:2≤p)(h:NoDiv left p)(hb:¬ p*p≤left)(h1:left > 1):Prm left∧p≤left:=by
 have pl:p≤left:=by
  rcases Int.lt_or_le left p with z | z
  ·exact absurd (Int.dvd_refl left) (h left (by omega) z)
  ·exact z
 refine⟨⟨by omega,fun d h2 h3 hd=>?_⟩,pl⟩
 obtain⟨c,hc⟩:=id hd
 by_cases dp:d < p
 ·exact h d h2 dp hd
 ·have c2:2≤c:=by
   rcases Int.lt_or_le c 2 with z | z
   ·have:c≤1:=by omega
    have:=Int.mul_le_mul_of_nonneg_left this (show 0≤d by omega)
    omega
   ·exact z
  by_cases cp:c < p
  ·exact h c c2 cp ⟨d,by rw[hc,Int.mul_comm]⟩
  ·have a1:=Int.mul_le_mul_of_nonneg_left (show p≤c by omega) (show 0≤d by omega)
   have a2:=Int.mul_le_mul_of_nonneg_right (show p≤d by omega) (show 0≤p by omega)
   omega
theorem endA {n:Int}{ps:List (Int×Int)}{left p:Int}(hp:2≤p)(h:PInv n ps left p)(hb:¬ p*p≤left)(h1:left > 1):Parts n (ps ++ [(left,left)]):=by
 obtain⟨pr,pl⟩:=prm_left hp h.nod hb h1
 refine⟨?_,?_,?_⟩
 ·rw[zBf];simp only [Prd,Int.mul_one];exact h.prd
 ·intro x hx
  rcases List.mem_append.mp hx with hx | hx
  ·exact h.row x hx
  ·obtain rfl:=List.mem_singleton.mp hx
   exact⟨pr,⟨0,(pow1 left).symm⟩⟩
 ·rw[List.pairwise_append]
  refine⟨h.srt,List.pairwise_singleton _ _,fun a ha b hb=>?_⟩
  obtain rfl:=List.mem_singleton.mp hb
  have:=h.low a ha
  show a.1 < left;omega
theorem endB {n:Int}{ps:List (Int×Int)}{left p:Int}(h:PInv n ps left p)(h0:1≤left)(h1:¬ left > 1):Parts n ps:=by
 have:left=1:=by omega
 refine⟨?_,h.row,h.srt⟩
 have:=h.prd
 rw[‹left=1›,Int.mul_one] at this
 exact this
theorem pow_pos' {p:Int}(hp:2≤p)(k:Nat):1≤p^k:=by
 induction k with
 | zero=>simp
 | succ k ih =>
  rw[Int.pow_succ]
  have:=Int.mul_le_mul_of_nonneg_left hp (show 0≤p^k by omega)
  omega
theorem pow_mono {p:Int}(hp:2≤p){k e:Nat}(h:k≤e):p^k≤p^e:=by
 obtain⟨d,rfl⟩:=Nat.exists_eq_add_of_le h
 rw[Int.pow_add]
 have a:=pow_pos' hp k
 have:=Int.mul_le_mul_of_nonneg_left (pow_pos' hp d) (show 0≤p^k by omega)
 omega
theorem row_le {x:Int×Int}(h:Row x):2≤x.1∧x.1≤x.2:=by
 obtain⟨e,he⟩:=h.pw
 refine⟨h.pr.1,?_⟩
 have a:=pow_mono h.pr.1 (show 0+1≤e+1 by omega)
 rw[← he,pow1] at a
 exact a
theorem Prd_pos:∀ (ps:List (Int×Int)),(∀ x∈ps,Row x)→1≤Prd ps
 | [],_=>by simp [Prd]
 | x::r,h=>by
  have a:=row_le (h x List.mem_cons_self)
  have b:=Prd_pos r fun y hy=>h y (List.mem_cons_of_mem _ hy)
  have c:=Int.mul_le_mul_of_nonneg_right (show 1≤x.2 by omega) (show 0≤Prd r by omega)
  simp only [Prd];omega
end Pt
namespace Pt
theorem copr {p a:Int}(hp:Prm p)(h:¬ p∣a):Nat.Coprime p.natAbs a.natAbs:=by
 have g1:(Nat.gcd p.natAbs a.natAbs)∣p.natAbs:=Nat.gcd_dvd_left _ _
 have g2:(Nat.gcd p.natAbs a.natAbs)∣a.natAbs:=Nat.gcd_dvd_right _ _
 have e1:((Nat.gcd p.natAbs a.natAbs:Nat):Int)∣p:=Int.ofNat_dvd_left.mpr g1
 have e2:((Nat.gcd p.natAbs a.natAbs:Nat):Int)∣a:=Int.ofNat_dvd_left.mpr g2
 have p2:=hp.1
 have gp:0 < Nat.gcd p.natAbs a.natAbs:=Nat.gcd_pos_of_pos_left _ (by omega)
 have gl:((Nat.gcd p.natAbs a.natAbs:Nat):Int)≤p:=Int.le_of_dvd (by omega) e1
 show Nat.gcd p.natAbs a.natAbs=1
 rcases Nat.lt_or_ge (Nat.gcd p.natAbs a.natAbs) 2 with z | z
 ·omega
 ·rcases Int.lt_or_le ((Nat.gcd p.natAbs a.natAbs:Nat):Int) p with y | y
  ·exact absurd e1 (hp.2 _ (by omega) y)
  ·have:((Nat.gcd p.natAbs a.natAbs:Nat):Int)=p:=by omega
   rw[this] at e2
   exact absurd e2 h
theorem euclid {p a b:Int}(hp:Prm p)(h:p∣a*b):p∣a∨p∣b:=by
 by_cases c:p∣a
 ·exact .inl c
 ·right
  have q:=copr hp c
  have h':p.natAbs∣a.natAbs*b.natAbs:=by rw[← Int.natAbs_mul];exact Int.natAbs_dvd_natAbs.mpr h
  exact Int.natAbs_dvd_natAbs.mp (q.dvd_of_dvd_mul_left h')
theorem zFn {p r:Int}(hp:Prm p)(hr:Prm r):∀ e:Nat,p∣r^e→p=r
 | 0,h=>by
  have:=Int.le_of_dvd (show (0:Int) < 1 by decide) (show p∣1 by simpa using h)
  have:=hp.1;omega
 | e+1,h=>by
  rw[Int.pow_succ] at h
  rcases euclid hp h with z | z
  ·exact zFn hp hr e z
  ·have l:=Int.le_of_dvd (by have:=hr.1;omega) z
   rcases Int.lt_or_le p r with y | y
   ·exact absurd z (hr.2 p hp.1 y)
   ·omega
theorem prm_Prd {p:Int}(hp:Prm p):∀ (ps:List (Int×Int)),(∀ x∈ps,Row x)→p∣Prd ps→∃ x∈ps,x.1=p
 | [],_,h=>by
  have:=Int.le_of_dvd (by decide) (show p∣1 from h)
  have:=hp.1;omega
 | x::r,h,d=>by
  have d':p∣x.2*Prd r:=d
  rcases euclid hp d' with z | z
  ·obtain⟨e,he⟩:=(h x List.mem_cons_self).pw
   rw[he] at z
   exact⟨x,List.mem_cons_self,(zFn hp (h x List.mem_cons_self).pr _ z).symm⟩
  ·obtain⟨y,hy,e⟩:=prm_Prd hp r (fun y hy=>h y (List.mem_cons_of_mem _ hy)) z
   exact⟨y,List.mem_cons_of_mem _ hy,e⟩
theorem pow_ne {p:Int}(hp:2≤p)(k:Nat):p^k≠0:=by have:=pow_pos' hp k;omega
theorem pow_dvd {p:Int}{j e:Nat}(h:j+1≤e):p^(j+1)∣p^e:=by
 obtain⟨d,rfl⟩:=Nat.exists_eq_add_of_le h
 rw[Int.pow_add p (j+1) d];exact Int.dvd_mul_right _ _
structure DI (n c:Int)(low high:List Int):Prop where
 sq:∀ x,1≤x→x < c→x*x≤n
 ls:low.Pairwise (· < ·)
 lm:∀ x,x∈low↔(1≤x∧x < c)∧x∣n
 hs:high.Pairwise (· < ·)
 hm:∀ y,y∈high↔∃ x,(1≤x∧x < c)∧x*x≠n∧x*y=n
end Pt
namespace Pt
def IsSign (n s:Int):Prop :=
 ((∃ p,Prm p∧p*p∣n)∧s=0)∨((∀ p,Prm p→¬ p*p∣n)∧∃ l:List Int,l.Nodup∧(∀ p,p∈l↔Prm p∧p∣n)∧s=(-1)^l.length)
theorem least_prime {n:Int}(h:2≤n):∃ p,Prm p∧p∣n:=by
 have:∀ k:Nat,∀ c:Int,2≤c→(n-c).toNat=k→c≤n→(∀ d,2≤d→d < c→¬ d∣n)→∃ p,Prm p∧p∣n:=by
  intro k
  induction k with
  | zero =>
   intro c c2 ek cn no
   have:c=n:=by omega
   subst this
   exact⟨c,⟨c2,no⟩,Int.dvd_refl _⟩
  | succ k ih =>
   intro c c2 ek cn no
   by_cases z:c∣n
   ·exact⟨c,⟨c2,fun d a b y=>no d a b (Int.dvd_trans y z)⟩,z⟩
   ·refine ih (c+1) (by omega) (by omega) (by omega) fun d a b=>?_
    by_cases q:d=c
    ·subst q;exact z
    ·exact no d a (by omega)
 exact this _ 2 (by omega) rfl h (fun d a b=>by omega)
open Classical in
noncomputable def mu (n:Int):Int:=if h:∃ s,IsSign n s then Classical.choose h else 0
structure LI (n0 n p done:Int):Prop where
 ex:∃ m,n0=m*n∧IsSign m done∧1≤m∧(∀ r,Prm r→r∣m→r < p)
 no:NoDiv n p
end Pt
namespace Pt
theorem Prd_split {ps:List (Int×Int)}{x:Int×Int}(h:x∈ps)(srt:ps.Pairwise fun a b=>a.1 < b.1)(row:∀ y∈ps,Row y):∃ m,Prd ps=x.2*m∧¬ x.1∣m∧1≤m:=by
 obtain⟨a,b,rfl⟩:=List.append_of_mem h
 rw[List.pairwise_append,List.pairwise_cons] at srt
 have ra:∀ y∈a,Row y:=fun y hy=>row y (List.mem_append_left _ hy)
 have rb:∀ y∈b,Row y:=fun y hy=>row y (List.mem_append_right _ (List.mem_cons_of_mem _ hy))
 have rx:=row x h
 refine⟨Prd a*Prd b,?_,fun z=>?_,?_⟩
 ·rw[zBf];simp only [Prd];rw[Int.mul_left_comm]
 ·rcases euclid rx.pr z with z | z
  ·obtain⟨y,hy,e⟩:=prm_Prd rx.pr a ra z
   have:=srt.2.2 y hy x List.mem_cons_self
   omega
  ·obtain⟨y,hy,e⟩:=prm_Prd rx.pr b rb z
   have:=srt.2.1.1 y hy
   omega
 ·have:=Int.mul_le_mul (Prd_pos a ra) (Prd_pos b rb) (by omega) (by have:=Prd_pos a ra;omega)
  omega
theorem part_iff {n:Int}{ps:List (Int×Int)}(h:Parts n ps)(x:Int×Int):x∈ps↔Prm x.1∧x.1∣n∧IsPow x.1 x.2∧x.2∣n∧¬ x.2*x.1∣n:=by
 constructor
 ·intro hx
  have rx:=h.row x hx
  obtain⟨m,e,nd,m1⟩:=Prd_split hx h.srt h.row
  rw[h.prd] at e
  obtain⟨k,hk⟩:=rx.pw
  have dq:x.2∣n:=⟨m,e⟩
  refine⟨rx.pr,Int.dvd_trans ?_ dq,rx.pw,dq,fun z=>nd ?_⟩
  ·rw[hk,Int.pow_succ];exact Int.dvd_mul_left _ _
  ·rw[e] at z
   exact Int.dvd_of_mul_dvd_mul_left (by have:=row_le rx;omega) z
 ·rintro⟨pr,d,⟨k,hk⟩,dq,nd⟩
  rw[← h.prd] at d
  obtain⟨y,hy,e⟩:=prm_Prd pr ps h.row d
  obtain⟨m,e2,nm,m1⟩:=Prd_split hy h.srt h.row
  rw[h.prd] at e2
  obtain⟨j,hj⟩:=(h.row y hy).pw
  rw[e] at hj nm
  have p2:=pr.1
  have le:∀ {a b:Nat}{c:Int},¬ x.1∣c→x.1^a∣x.1^b*c→a≤b:=by
   intro a b c hc hd
   rcases Nat.lt_or_ge b a with z | z
   ·obtain⟨t,rfl⟩:=Nat.exists_eq_add_of_le z
    rw[show b+1+t=b+(t+1) by omega,Int.pow_add] at hd
    have:=Int.dvd_of_mul_dvd_mul_left (pow_ne p2 b) hd
    exact absurd (Int.dvd_trans ⟨x.1^t,by rw[Int.pow_succ,Int.mul_comm]⟩ this) hc
   ·exact z
  have k1:k+1≤j+1:=le nm (by rw[← hj,← e2,← hk];exact dq)
  have k2:¬ k+1+1≤j+1:=fun z=>nd (by
   rw[hk,← Int.pow_succ,e2,hj]
   exact Int.dvd_trans (pow_dvd z) (Int.dvd_mul_right _ _))
  have:k=j:=by omega
  have q:x=y:=Prod.ext e.symm (by rw[hk,hj,this])
  rw[q];exact hy
structure CI (n c:Int)(k:Nat):Prop where
 ex:∃ low high,DI n c low high∧low.length+high.length=k
def rt (n:Nat):Nat→Nat
 | 0=>0
 | d+1=>bif Nat.ble ((d+1)*(d+1)) n then d+1 else rt n d
end Pt
namespace Eh
def G (a b:Int):Int:=(Int.gcd a b:Nat)
def ab (a:Int):Int:=if a < 0 then -a else a
theorem ab_nat (a:Int):ab a=(a.natAbs:Int):=by unfold ab;split <;> omega
theorem G_ab (a b:Int):G (ab a) (ab b)=G a b:=by
 unfold G;rw[ab_nat,ab_nat]
 simp [Int.gcd]
theorem start (a b:Int):0≤ab a∧0≤ab b∧G (ab a) (ab b)=G a b:=by
 refine⟨?_,?_,G_ab a b⟩ <;> (rw[ab_nat];omega)
theorem turn {a b g s:Int}(hg:0≤g)(hs:0≤s)(h:G g s=G a b)(ne:¬ s=0) :
  0≤s∧0≤Int.fmod g s∧G s (Int.fmod g s)=G a b:=by
 have e:=Int.fmod_eq_emod_of_nonneg g hs
 refine⟨hs,?_,?_⟩
 ·rw[e];exact Int.emod_nonneg _ ne
 ·rw[e,← h]
  unfold G
  congr 1
  obtain⟨m,rfl⟩:=Int.eq_ofNat_of_zero_le hg
  obtain⟨n,rfl⟩:=Int.eq_ofNat_of_zero_le hs
  rw[← Int.natCast_emod]
  show Nat.gcd n (m%n)=Nat.gcd m n
  rw[Nat.gcd_comm n,← Nat.gcd_rec,Nat.gcd_comm]
theorem less {g s:Int}(hs:0≤s)(ne:¬ s=0):(Int.fmod g s).toNat < s.toNat:=by
 have e:=Int.fmod_eq_emod_of_nonneg g hs
 have:=Int.emod_lt_of_pos g (show 0 < s by omega)
 have:=Int.emod_nonneg g ne
 omega
theorem out {a b g s:Int}(hg:0≤g)(h:G g s=G a b)(z:s=0):g=G a b:=by
 subst z
 unfold G at *
 have:Int.gcd g 0=g.natAbs:=Int.gcd_zero_right g
 omega
end Eh
namespace Eh
theorem turnE {a b g s:Int}(hg:0≤g)(hs:0≤s)(h:G g s=G a b)(ne:¬ s=0):0≤g%s∧G s (g%s)=G a b∧(g%s).toNat < s.toNat:=by
 have t:=turn hg hs h ne
 have l:=less (g:=g) hs ne
 rw[Int.fmod_eq_emod_of_nonneg g hs] at t l
 exact⟨t.2.1,t.2.2,l⟩
theorem p100 {a:Int}{n:Nat}(h:a.natAbs≤100^n)(hn:n≤63):a.natAbs < 2^500:=by
 have h1:(100:Nat)^n≤100^63:=Nat.pow_le_pow_right (by decide) hn
 have h2:(100:Nat)^63 < 2^500:=by decide +kernel
 omega
end Eh
namespace Eh
end Eh
namespace Eh
def us (n:Int)(i:Nat):List Int:=((List.range i).map fun (j:Nat)=>(1+(j:Int))).filter fun k=>decide (G k n=1)
end Eh
namespace Ld
def tab (n:Nat)(F:Int→Int):List Int:=(List.range n).map fun x:Nat=>F x
theorem tab_len (n:Nat)(F:Int→Int):(tab n F).length=n:=by simp [tab]
theorem at_tab {n:Nat}{F:Int→Int}(hn:0 < n)(hF:Per n F)(x:Int):at' (tab n F) x=F x:=by
 have e:=at_get (a:=tab n F) (x:=x) (by rw[tab_len];exact hn)
 rw[tab_len] at e
 unfold tab at e
 rw[List.getElem?_map,List.getElem?_range (hole_lt hn x)] at e
 have e':=Option.some.inj e
 unfold tab
 rw[← e']
 show F (((x%n).toNat:Nat):Int)=_
 rw[hole_eq hn]
 exact hF.md x
def turned (a:List Int)(far:Int):List Int:=tab a.length fun x=>at' a (x-far)
theorem zGz (a:List Int)(far:Int):(turned a far).length=a.length:=tab_len _ _
theorem per_sub {a:List Int}{n:Nat}(h:a.length=n)(c:Int):Per n fun x=>at' a (x-c):=fun x y e=>at_per' h _ _ (by rw[Int.sub_emod,e,← Int.sub_emod])
theorem at_turned {a:List Int}(hn:0 < a.length)(far x:Int):at' (turned a far) x=at' a (x-far):=at_tab hn (per_sub rfl far) x
structure Skp (n:Nat)(st:Int)(a o:List Int):Prop where
 la:a.length=n
 lo:o.length=n
 at_:∀ x:Int,at' o (x*st)=at' a x
theorem Skp.turned {n:Nat}(hn:0 < n){s:Int}{a l:List Int}(h:Skp n s a l)(far:Int):Skp n s (turned a far) (turned l (far*s)) :=
 ⟨by rw[zGz,h.la],by rw[zGz,h.lo],fun x=>by
  rw[at_turned (by rw[h.lo];exact hn),at_turned (by rw[h.la];exact hn),← Int.sub_mul,h.at_]⟩
end Ld
namespace Ld
def finF (a:List Int)(q:Nat)(x:Int):Int:=if x%q=0 then at' a (x/q) else 0
def fin (a:List Int)(q:Nat):List Int:=tab (q*a.length) (finF a q)
theorem fin_len (a:List Int)(q:Nat):(fin a q).length=q*a.length:=tab_len _ _
theorem div_mod {n q:Nat}(hq:0 < q){x y:Int}(h:x%((q*n:Nat):Int)=y%((q*n:Nat):Int)):x%q=y%q∧(x/q)%n=(y/q)%n:=by
 have d:((q:Nat):Int)∣((q*n:Nat):Int):=by rw[Int.natCast_mul];exact Int.dvd_mul_right _ _
 refine⟨?_,?_⟩
 ·rw[← Int.emod_emod_of_dvd x d,h,Int.emod_emod_of_dvd y d]
 ·have e:((q*n:Nat):Int)∣x-y:=Int.dvd_of_emod_eq_zero (Int.emod_eq_emod_iff_emod_sub_eq_zero.mp h)
  obtain⟨t,ht⟩:=e
  rw[Int.natCast_mul] at ht
  have ex:x=y+q*(n*t):=by rw[← Int.mul_assoc];omega
  rw[ex,Int.add_mul_ediv_left _ _ (by omega),Int.add_mul_emod_self_left]
theorem per_fin {a:List Int}{q n:Nat}(ha:a.length=n)(hq:0 < q):Per (q*n) (finF a q):=fun x y h=>by
 have d:=div_mod hq h
 unfold finF
 rw[d.1,at_per' ha _ _ d.2]
theorem at_fin {a:List Int}{q:Nat}(hn:0 < a.length)(hq:0 < q)(x:Int):at' (fin a q) x=if x%q=0 then at' a (x/q) else 0:=at_tab (Nat.mul_pos hq hn) (per_fin rfl hq) x
theorem inv_down {st v:Int}{n q:Nat}(h:(st*v)%((q*n:Nat):Int)=1%((q*n:Nat):Int)):(st*v)%n=1%n∧(st*v)%q=1%q:=by
 have d1:((n:Nat):Int)∣((q*n:Nat):Int):=by rw[Int.natCast_mul];exact Int.dvd_mul_left _ _
 have d2:((q:Nat):Int)∣((q*n:Nat):Int):=by rw[Int.natCast_mul];exact Int.dvd_mul_right _ _
 exact⟨by rw[← Int.emod_emod_of_dvd _ d1,h,Int.emod_emod_of_dvd _ d1],by rw[← Int.emod_emod_of_dvd _ d2,h,Int.emod_emod_of_dvd _ d2]⟩
theorem Skp.fin {n q:Nat}(hn:0 < n)(hq:0 < q){st v:Int}{a o:List Int}(h:Skp n st a o)(hv:(st*v)%((q*n:Nat):Int)=1%((q*n:Nat):Int)):Skp (q*n) st (fin a q) (fin o q) :=
 ⟨by rw[fin_len,h.la],by rw[fin_len,h.lo],fun x=>by
  rw[at_fin (by rw[h.lo];exact hn) hq,at_fin (by rw[h.la];exact hn) hq]
  have iq:=(inv_down hv).2
  by_cases z:x%q=0
  ·obtain⟨y,rfl⟩:=Int.dvd_of_emod_eq_zero z
   rw[if_pos z,if_pos (by rw[Int.mul_assoc,Int.mul_emod_right]),Int.mul_assoc,Int.mul_ediv_cancel_left _ (by omega),Int.mul_ediv_cancel_left _ (by omega),h.at_]
  ·rw[if_neg z,if_neg fun w=>z ?_]
   have:(x*st*v)%q=x%q:=by rw[Int.mul_assoc,Int.mul_emod,iq,← Int.mul_emod,Int.mul_one]
   rw[← this,Int.mul_emod,w,Int.zero_mul,Int.zero_emod]⟩
end Ld
namespace Pl
def ds (n:Nat):Nat→List Int
 | 0=>[]
 | k+1=>ds n k ++ (if ((k:Int)+1)∣(n:Int) then [(k:Int)+1] else [])
noncomputable def pv (n:Nat)(far:Int):Int:=(((ds n n).filter fun d=>decide (d∣far)).map fun d=>d*Pt.mu (n/d)).sum
noncomputable def mk (n:Nat)(d:Int):Int×Int:=(d,d*Pt.mu (n/d))
theorem S_sum (F:Int→Int):∀ n:Nat,((List.range n).map fun j:Nat=>F j).sum=Ld.S n F
 | 0=>rfl
 | n+1=>by rw[List.range_succ,List.map_append,List.sum_append,S_sum F n];simp [Ld.S]
end Pl
namespace Rs
open Pt (Parts Prd Prm Row IsPow)
def tot (n:Int)(l:List ((Int×Int)×Int)):Int:=(l.map fun z=>z.2*(n/z.1.2)).sum
end Rs
namespace Eb
theorem mul_le0 {a b:Int}(ha:0≤a)(hb:b≤0):a*b≤0:=by
 have:=Int.mul_nonneg ha (show 0≤-b by omega)
 rw[Int.mul_neg] at this;omega
def Sg (x y z w:Int):Prop:=(0≤x∧y≤0∧z≤0∧0≤w)∨(x≤0∧0≤y∧0≤z∧w≤0)
theorem Sg.step {x y z w q:Int}(h:Sg x y z w)(hq:0≤q):Sg z w (x-q*z) (y-q*w):=by
 rcases h with ⟨a,b,c,d⟩ | ⟨a,b,c,d⟩
 ·have:=mul_le0 hq c
  have:=Int.mul_nonneg hq d
  exact .inr ⟨c,d,by omega,by omega⟩
 ·have:=Int.mul_nonneg hq c
  have:=mul_le0 hq d
  exact .inl ⟨c,d,by omega,by omega⟩
inductive Tn (A B:Int):Int→Int→Int→Int→Prop where
 | one:Tn A B 1 0 0 1
 | step {x y z w:Int}(q:Int):Tn A B x y z w→0 < z*A+w*B→0≤(x-q*z)*A+(y-q*w)*B→(x-q*z)*A+(y-q*w)*B < z*A+w*B→0≤q→Tn A B z w (x-q*z) (y-q*w)
theorem Tn.sg {A B x y z w:Int}(h:Tn A B x y z w):Sg x y z w:=by
 induction h with
 | one=>exact .inl ⟨by decide,by decide,by decide,by decide⟩
 | step q _ _ _ _ hq ih=>exact ih.step hq
theorem Tn.le {A B x y z w:Int}(h:Tn A B x y z w):z*A+w*B≤B:=by
 induction h with
 | one=>omega
 | step q _ _ _ lt _ ih=>omega
theorem Tn.lt {A B x y z w:Int}(h:Tn A B x y z w)(ne:¬ (x=1∧y=0∧z=0∧w=1)):z*A+w*B < B:=by
 cases h with
 | one=>exact absurd ⟨rfl,rfl,rfl,rfl⟩ ne
 | step q h _ _ lt _=>have:=h.le;omega
theorem Tn.pos {A B x y z w:Int}(h:Tn A B x y z w)(hA:0≤A)(hB:0≤B):0≤x*A+y*B∧0≤z*A+w*B:=by
 induction h with
 | one=>exact⟨by omega,by omega⟩
 | step q _ p n _ _ _=>exact⟨by omega,n⟩
structure St (one other r0 r1 c0 c1:Int):Prop where
 p0:0≤r0
 p1:0≤r1
 sg:(c0≤0∧0≤c1)∨(0≤c0∧c1≤0)
 m:∃ m0 m1:Int,r0=m0*one+c0*other∧r1=m1*one+c1*other∧(m0*c1-m1*c0=1∨m0*c1-m1*c0=-1)
theorem St.start {one other:Int}(h1:0≤one)(h2:0≤other):St one other one other 0 1:=⟨h1,h2,.inl ⟨by decide,by decide⟩,1,0,by omega,by omega,.inl (by decide)⟩
theorem St.step {one other r0 r1 c0 c1 q:Int}(h:St one other r0 r1 c0 c1)(hq:0≤q)(p:0≤r0-q*r1):St one other r1 (r0-q*r1) c1 (c0-q*c1):=by
 obtain⟨p0,p1,sg,m0,m1,e0,e1,d⟩:=h
 refine⟨p1,p,?_,m1,m0-q*m1,e1,by grind,?_⟩
 ·rcases sg with ⟨a,b⟩ | ⟨a,b⟩
  ·have:=Int.mul_nonneg hq b;exact .inr ⟨b,by omega⟩
  ·have:=mul_le0 hq b;exact .inl ⟨b,by omega⟩
 ·have e:m1*(c0-q*c1)-(m0-q*m1)*c1=-(m0*c1-m1*c0):=by grind
  rw[e]
  rcases d with d | d <;> rw[d]
  ·exact .inr rfl
  ·exact .inl rfl
theorem Tn.st {one other r0 r1 c0 c1 x y z w:Int}(t:Tn r0 r1 x y z w)(h:St one other r0 r1 c0 c1):St one other (x*r0+y*r1) (z*r0+w*r1) (x*c0+y*c1) (z*c0+w*c1):=by
 induction t with
 | one =>
  have e1:1*r0+0*r1=r0:=by omega
  have e2:0*r0+1*r1=r1:=by omega
  have e3:1*c0+0*c1=c0:=by omega
  have e4:0*c0+1*c1=c1:=by omega
  rw[e1,e2,e3,e4];exact h
 | @step x y z w q _ _ n _ hq ih =>
  have e1:(x-q*z)*r0+(y-q*w)*r1=(x*r0+y*r1)-q*(z*r0+w*r1):=by grind
  have e2:(x-q*z)*c0+(y-q*w)*c1=(x*c0+y*c1)-q*(z*c0+w*c1):=by grind
  rw[e1] at n ⊢
  rw[e2]
  exact ih.step hq n
theorem St.cross {one other r0 r1 c0 c1:Int}(h:St one other r0 r1 c0 c1)(h1:0≤one):r0*c1.natAbs+r1*c0.natAbs=one:=by
 obtain⟨p0,p1,sg,m0,m1,e0,e1,d⟩:=h
 have e:r0*c1-r1*c0=(m0*c1-m1*c0)*one:=by rw[e0,e1];grind
 rcases sg with ⟨a,b⟩ | ⟨a,b⟩
 ·have k1:(c1.natAbs:Int)=c1:=by omega
  have k0:(c0.natAbs:Int)=-c0:=by omega
  rw[k1,k0,Int.mul_neg]
  have p2:=Int.mul_nonneg p0 b
  have p3:=Int.mul_nonneg p1 (show 0≤-c0 by omega)
  rw[Int.mul_neg] at p3
  rcases d with d | d <;> rw[d] at e <;> omega
 ·have k1:(c1.natAbs:Int)=-c1:=by omega
  have k0:(c0.natAbs:Int)=c0:=by omega
  rw[k1,k0,Int.mul_neg]
  have p2:=Int.mul_nonneg p0 (show 0≤-c1 by omega)
  have p3:=Int.mul_nonneg p1 a
  rw[Int.mul_neg] at p2
  rcases d with d | d <;> rw[d] at e <;> omega
theorem err {u v α β H:Int}(h:(0≤u∧v≤0)∨(u≤0∧0≤v))(a0:0≤α)(a1:α≤H)(b0:0≤β)(b1:β≤H){d:Int}(du:(u.natAbs:Int)≤d)(dv:(v.natAbs:Int)≤d):-(d*H)≤u*α+v*β∧u*α+v*β≤d*H:=by
 have H0:0≤H:=by omega
 have key:∀ {x y:Int},0≤x→x≤d→0≤y→y≤H→x*y≤d*H:=fun hx hd hy hH=>Int.mul_le_mul hd hH hy (by omega)
 rcases h with ⟨a,b⟩ | ⟨a,b⟩
 ·have k1:=key a (by omega) a0 a1
  have k2:=key (show 0≤-v by omega) (by omega) b0 b1
  have p1:=Int.mul_nonneg a a0
  have p2:=Int.mul_nonneg (show 0≤-v by omega) b0
  rw[Int.neg_mul] at k2 p2
  omega
 ·have k1:=key b (by omega) b0 b1
  have k2:=key (show 0≤-u by omega) (by omega) a0 a1
  have p1:=Int.mul_nonneg b b0
  have p2:=Int.mul_nonneg (show 0≤-u by omega) a0
  rw[Int.neg_mul] at k2 p2
  omega
theorem sure {A B a b α β H x y z w:Int}(hH:1≤H)(eA:A=a*H+α)(eB:B=b*H+β)(a0:0≤α)(a1:α < H)(b0:0≤β)(b1:β < H)(t:Tn A B x y z w){q:Int}(hq:0≤q)
  (L0:0 < z*A+w*B){d d':Int}(dx:((x-q*z).natAbs:Int)≤d)(dy:((y-q*w).natAbs:Int)≤d)(dz:(z.natAbs:Int)≤d')(dw:(w.natAbs:Int)≤d')
  (n1:d < (x-q*z)*a+(y-q*w)*b)(n2:d+d' < (z*a+w*b)-((x-q*z)*a+(y-q*w)*b)) :
  Tn A B z w (x-q*z) (y-q*w)∧H≤(x-q*z)*A+(y-q*w)*B:=by
 have s:=t.sg
 have s2:=s.step hq
 have d0:0≤d:=by omega
 have d'0:0≤d':=by omega
 have e1:=err (H:=H-1) (u:=x-q*z) (v:=y-q*w) (α:=α) (β:=β) (d:=d) (by rcases s2 with ⟨_,_,a,b⟩ | ⟨_,_,a,b⟩;exact .inr ⟨a,b⟩;exact .inl ⟨a,b⟩) a0 (by omega) b0 (by omega) dx dy
 have e2:=err (H:=H-1) (u:=z) (v:=w) (α:=α) (β:=β) (d:=d') (by rcases s with ⟨_,_,a,b⟩ | ⟨_,_,a,b⟩;exact .inr ⟨a,b⟩;exact .inl ⟨a,b⟩) a0 (by omega) b0 (by omega) dz dw
 have t1:(x-q*z)*A+(y-q*w)*B=((x-q*z)*a+(y-q*w)*b)*H+((x-q*z)*α+(y-q*w)*β):=by rw[eA,eB];grind
 have t2:z*A+w*B=(z*a+w*b)*H+(z*α+w*β):=by rw[eA,eB];grind
 generalize (x-q*z)*a+(y-q*w)*b=new at *
 generalize z*a+w*b=later at *
 generalize (x-q*z)*α+(y-q*w)*β=s1 at *
 generalize z*α+w*β=s2' at *
 have m1:=Int.mul_le_mul_of_nonneg_right (show d+1≤new by omega) (show 0≤H by omega)
 have m2:=Int.mul_le_mul_of_nonneg_right (show d+d'+1≤later-new by omega) (show 0≤H by omega)
 have x1:(d+1)*H=d*(H-1)+d+H:=by grind
 have x2:(d+d'+1)*H=d*(H-1)+d'*(H-1)+d+d'+H:=by grind
 rw[x1] at m1
 rw[x2,Int.sub_mul] at m2
 have big:H≤(x-q*z)*A+(y-q*w)*B:=by rw[t1];omega
 exact⟨.step q t L0 (by omega) (by rw[t1,t2];omega) hq,big⟩
theorem cop_dvd {m c d:Int}(u v:Int)(e:m*u-v*c=1∨m*u-v*c=-1)(hm:d∣v)(hc:d∣u):d∣1:=by
 have:d∣m*u-v*c:=Int.dvd_sub (Int.dvd_mul_of_dvd_right hc) (Int.dvd_mul_of_dvd_left hm)
 rcases e with e | e
 ·rwa [e] at this
 ·rw[e] at this;exact Int.dvd_neg.mp this
theorem St.recon {one other r0 r1 c0 c1:Int}(h:St one other r0 r1 c0 c1)(h1:0 < one){s t k:Int}(hs:0 < s)(e:s*other=t+k*one)(cop:Int.gcd s t=1)
  (small:t.natAbs*c1.natAbs+s*r1 < one):(c1=s∧r1=t)∨(c1=-s∧r1=-t):=by
 obtain⟨p0,p1,sg,m0,m1,e0,e1,d⟩:=h
 have z1:s*r1-t*c1=(s*m1+c1*k)*one:=by
  have:s*r1=s*m1*one+c1*(s*other):=by rw[e1];grind
  rw[this,e];grind
 have ab:((s*r1-t*c1).natAbs:Int) < one:=by
  have a1:((s*r1-t*c1).natAbs:Int)≤(s*r1).natAbs+(t*c1).natAbs:=by omega
  have a2:((s*r1).natAbs:Int)=s*r1:=by have:=Int.mul_nonneg (show 0≤s by omega) p1;omega
  have a3:((t*c1).natAbs:Int)=t.natAbs*c1.natAbs:=by rw[Int.natAbs_mul,Int.natCast_mul]
  omega
 have z2:s*m1+c1*k=0:=by
  rw[z1] at ab
  rcases Int.lt_trichotomy (s*m1+c1*k) 0 with g | g | g
  ·have:=Int.mul_le_mul_of_nonneg_right (show s*m1+c1*k≤-1 by omega) (show 0≤one by omega);omega
  ·exact g
  ·have:=Int.mul_le_mul_of_nonneg_right (show 1≤s*m1+c1*k by omega) (show 0≤one by omega);omega
 rw[z2,Int.zero_mul] at z1
 -- s divides c1
 have sd:s∣c1:=by
  have:s∣t*c1:=⟨r1,by omega⟩
  have cop':Nat.Coprime s.natAbs t.natAbs:=cop
  have:=Int.natAbs_dvd_natAbs.mpr this
  rw[Int.natAbs_mul] at this
  exact Int.natAbs_dvd_natAbs.mp (cop'.dvd_of_dvd_mul_left this)
 obtain⟨f,hf⟩:=sd
 have er:r1=t*f:=by
  refine Int.eq_of_mul_eq_mul_left (show s≠0 by omega) ?_
  rw[hf] at z1
  grind
 have em:m1=-(f*k):=by
  refine Int.eq_of_mul_eq_mul_left (show s≠0 by omega) ?_
  rw[hf] at z2
  grind
 have f1:f∣1:=cop_dvd (m:=m0) (c:=c0) c1 m1 d (by rw[em];exact Int.dvd_neg.mpr (Int.dvd_mul_right ..)) (by rw[hf];exact Int.dvd_mul_left ..)
 have fb:=Int.natAbs_dvd_natAbs.mpr f1
 have fle:=Nat.le_of_dvd (by decide) fb
 have f0:f≠0:=fun z=>by rw[z] at f1;have:=Int.zero_dvd.mp f1;omega
 have:f=1∨f=-1:=by
  have:f.natAbs≤1:=fle
  omega
 rcases this with z | z
 ·left;rw[z,Int.mul_one] at hf er;exact⟨hf,er⟩
 ·right;rw[z] at hf er;exact⟨by omega,by omega⟩
end Eb
namespace Eb
theorem Tn.c0 {one other r0 r1 c0 c1 x y z w:Int}(t:Tn r0 r1 x y z w)(h:St one other r0 r1 c0 c1)(o1:0≤one)(p0:1≤r0)(ne:¬ (x=1∧y=0∧z=0∧w=1)) :
  ((x*c0+y*c1).natAbs:Int)≤one∧1≤x*r0+y*r1∧x*r0+y*r1≤r1:=by
 cases t with
 | one=>exact absurd ⟨rfl,rfl,rfl,rfl⟩ ne
 | @step a b _ _ q t p n l hq =>
  have s:=t.st h
  have c:=s.cross o1
  have le:=t.le
  refine⟨?_,by omega,by omega⟩
  have a1:1≤a*r0+b*r1:=by
   cases t with
   | one=>omega
   | step q t p n l hq=>omega
  have q1:=Int.mul_nonneg s.p1 (show (0:Int)≤(a*c0+b*c1).natAbs by omega)
  have q2:=Int.mul_le_mul_of_nonneg_right a1 (show (0:Int)≤(x*c0+y*c1).natAbs by omega)
  omega
theorem St.c1 {one other r0 r1 c0 c1:Int}(h:St one other r0 r1 c0 c1)(o1:0≤one)(p0:1≤r0):(c1.natAbs:Int)≤one:=by
 have c:=h.cross o1
 have q1:=Int.mul_nonneg h.p1 (show (0:Int)≤c0.natAbs by omega)
 have q2:=Int.mul_le_mul_of_nonneg_right p0 (show (0:Int)≤c1.natAbs by omega)
 omega
theorem St.dvd {one other r0 r1 c0 c1:Int}(h:St one other r0 r1 c0 c1)(z:r1=0):r0∣one∧r0∣other:=by
 obtain⟨m0,m1,e0,e1,d⟩:=h.m
 rw[z] at e1
 constructor
 ·rcases d with d | d
  ·refine⟨c1,?_⟩
   rw[e0]
   have:(m0*c1-m1*c0)*one=one:=by rw[d,Int.one_mul]
   have e:c0*(m1*one+c1*other)=0:=by rw[← e1,Int.mul_zero]
   grind
  ·refine⟨-c1,?_⟩
   rw[e0]
   have:(m0*c1-m1*c0)*one=-one:=by rw[d];omega
   have e:c0*(m1*one+c1*other)=0:=by rw[← e1,Int.mul_zero]
   grind
 ·rcases d with d | d
  ·refine⟨-m1,?_⟩
   rw[e0]
   have:(m0*c1-m1*c0)*other=other:=by rw[d,Int.one_mul]
   have e:m0*(m1*one+c1*other)=0:=by rw[← e1,Int.mul_zero]
   grind
  ·refine⟨m1,?_⟩
   rw[e0]
   have:(m0*c1-m1*c0)*other=-other:=by rw[d];omega
   have e:m0*(m1*one+c1*other)=0:=by rw[← e1,Int.mul_zero]
   grind
theorem St.c1_ne {one other r0 r1 c0 c1:Int}(h:St one other r0 r1 c0 c1)(lt:r1 < one):c1≠0:=fun z=>by
 obtain⟨m0,m1,e0,e1,d⟩:=h.m
 rw[z] at e1 d
 have u:m1*c0=1∨m1*c0=-1:=by omega
 have m1u:m1=1∨m1=-1:=by
  have n:m1.natAbs*c0.natAbs=1:=by
   rw[← Int.natAbs_mul]
   rcases u with u | u <;> rw[u] <;> rfl
  have:=Nat.eq_one_of_mul_eq_one_right n
  omega
 have p1:=h.p1
 rcases m1u with y | y <;> rw[y] at e1 <;> omega
theorem St.back {n st c0 c1:Int}(h:St n (st%n) 1 0 c0 c1)(n1:1≤n):1≤(c0-1)%n+1∧(c0-1)%n+1≤n∧n∣st*((c0-1)%n+1)-1:=by
 have a:=Int.emod_nonneg (c0-1) (show n≠0 by omega)
 have b:=Int.emod_lt_of_pos (c0-1) (show 0 < n by omega)
 refine⟨by omega,by omega,?_⟩
 obtain⟨m0,m1,e0,e1,d⟩:=h.m
 have e:(c0-1)%n=c0-1-n*((c0-1)/n):=Int.emod_def ..
 have f:st%n=st-n*(st/n):=Int.emod_def ..
 rw[f] at e0
 rw[e]
 refine⟨-m0+c0*(st/n)-st*((c0-1)/n),?_⟩
 grind
end Eb
namespace Lt
abbrev g (v:List Int)(i:Nat):Int:=v.getD i 0
def mix (one:List Int)(a:Int)(other:List Int)(b m:Int):List Int:=List.zipWith (fun x y=>(x*a+y*b)%m) one other
theorem zFi {one other:List Int}{K:Nat}(h1:one.length=K)(h2:other.length=K)(a b m:Int):(mix one a other b m).length=K:=by unfold mix;rw[List.length_zipWith,h1,h2,Nat.min_self]
theorem zAg {one other:List Int}{K:Nat}(h1:one.length=K)(h2:other.length=K)(a b m:Int)(i:Nat):g (mix one a other b m) i=(g one i*a+g other i*b)%m:=by
 unfold g mix
 rw[List.getD_eq_getElem?_getD,List.getD_eq_getElem?_getD,List.getD_eq_getElem?_getD,List.getElem?_zipWith]
 by_cases c:i < K
 ·rw[List.getElem?_eq_getElem (by omega),List.getElem?_eq_getElem (by omega)];rfl
 ·rw[List.getElem?_eq_none (by omega),List.getElem?_eq_none (by omega)]
  show (0:Int)=(0*a+0*b)%m
  rw[Int.zero_mul,Int.zero_mul,Int.add_zero,Int.zero_emod]
def dt (k:Nat)(v:List Int)(a:Int→Int):Int:=Ld.S k fun i=>g v i.toNat*a i
theorem jV {m:Int}{F G:Int→Int}:∀ {k:Nat},(∀ i:Nat,i < k→m∣F i-G i)→m∣Ld.S k F-Ld.S k G
 | 0,_=>by show m∣(0:Int)-0;exact Int.dvd_zero _
 | k+1,h=>by
  have a:=jV (k:=k) fun i hi=>h i (Nat.lt_succ_of_lt hi)
  have b:=h k (Nat.lt_succ_self k)
  show m∣(Ld.S k F+F k)-(Ld.S k G+G k)
  rw[show (Ld.S k F+F k)-(Ld.S k G+G k)=(Ld.S k F-Ld.S k G)+(F k-G k) by omega]
  exact Int.dvd_add a b
theorem jI {m x y:Int}(h:m∣x-y):m∣x↔m∣y:=by
 constructor
 ·intro d;have:=Int.dvd_sub d h;rwa [show x-(x-y)=y by omega] at this
 ·intro d;have:=Int.dvd_add d h;rwa [show y+(x-y)=x by omega] at this
theorem vX (x m:Int):m∣x%m-x:=by
 have:=Int.emod_add_mul_ediv x m
 exact⟨-(x/m),by rw[Int.mul_neg];omega⟩
theorem dt_mix {one other:List Int}{K:Nat}(h1:one.length=K)(h2:other.length=K)(a b m:Int)(k:Nat)(w:Int→Int):m∣dt k (mix one a other b m) w-(a*dt k one w+b*dt k other w):=by
 have e:a*dt k one w+b*dt k other w=Ld.S k fun i=>a*(g one i.toNat*w i)+b*(g other i.toNat*w i):=by
  unfold dt;rw[Ld.wS,Ld.vL,Ld.vL]
 rw[e]
 refine jV fun i _=>?_
 rw[zAg h1 h2]
 obtain⟨z,hz⟩:=vX (g one (i:Int).toNat*a+g other (i:Int).toNat*b) m
 refine⟨z*w i,?_⟩
 have:(g one (i:Int).toNat*a+g other (i:Int).toNat*b)%m=m*z+(g one (i:Int).toNat*a+g other (i:Int).toNat*b):=by omega
 rw[this];grind
inductive Ent (m:Int):Nat→List (List Int)→List Int→List (List Int)→Prop where
 | nil {c:Nat}{left:List Int}:Ent m c [] left []
 | skip {c:Nat}{l left:List Int}{ls ls':List (List Int)}:g left c=0→Ent m (c+1) ls left ls'→Ent m c (l::ls) left (l::ls')
 | mix {c:Nat}{l left:List Int}{ls ls':List (List Int)}(α β G:Int):g left c≠0→1≤G→G∣g l c→G∣g left c→α*g l c+β*g left c=G →
   Ent m (c+1) ls (mix left (g l c/G) l (-(g left c/G)) m) ls'→Ent m c (l::ls) left (mix l α left β m::ls')
def Tri (m:Int)(K:Nat):Nat→List (List Int)→Prop
 | _,[]=>True
 | c,l::ls=>(l.length=K∧(∀ i,i < c→g l i=0)∧1≤g l c∧g l c∣m)∧Tri m K (c+1) ls
structure Lf (m:Int)(K c:Nat)(left:List Int):Prop where
 len:left.length=K
 zero:∀ i,i < c→g left i=0
 rng:∀ i,0≤g left i∧g left i < m
theorem Lf.next {m:Int}{K c:Nat}{left:List Int}(h:Lf m K c left)(z:g left c=0):Lf m K (c+1) left :=
 ⟨h.len,fun i hi=>(by rcases Nat.lt_succ_iff_lt_or_eq.mp hi with y | y;exact h.zero i y;rw[y];exact z),h.rng⟩
theorem Lf.mixed {m:Int}(hm:1≤m){K c:Nat}{l left:List Int}(h:Lf m K c left)(ll:l.length=K)(lz:∀ i,i < c→g l i=0){G:Int}(hG:1≤G)(d1:G∣g l c)(d2:G∣g left c):Lf m K (c+1) (mix left (g l c/G) l (-(g left c/G)) m):=by
 refine⟨zFi h.len ll _ _ _,fun i hi=>?_,fun i=>?_⟩
 ·rw[zAg h.len ll]
  rcases Nat.lt_succ_iff_lt_or_eq.mp hi with y | y
  ·rw[h.zero i y,lz i y,Int.zero_mul,Int.zero_mul,Int.add_zero,Int.zero_emod]
  ·rw[y]
   obtain⟨x,hx⟩:=d1
   obtain⟨z,hz⟩:=d2
   have:g left c*(g l c/G)+g l c * -(g left c/G)=0:=by
    rw[hx,hz,Int.mul_ediv_cancel_left _ (by omega),Int.mul_ediv_cancel_left _ (by omega)];grind
   rw[this,Int.zero_emod]
 ·rw[zAg h.len ll]
  exact⟨Int.emod_nonneg _ (by omega),Int.emod_lt_of_pos _ (by omega)⟩
theorem Ent.tri {m:Int}(hm:1≤m){K:Nat}:∀ {c:Nat}{ls:List (List Int)}{left:List Int}{ls':List (List Int)},Ent m c ls left ls'→Tri m K c ls→Lf m K c left→Tri m K c ls'∧ls'.length=ls.length:=by
 intro c ls left ls' h
 induction h with
 | nil=>intro _ _;exact⟨trivial,rfl⟩
 | skip z _ ih =>
  intro t f
  have:=ih t.2 (f.next z)
  exact⟨⟨t.1,this.1⟩,by rw[List.length_cons,List.length_cons,this.2]⟩
 | @mix c l left ls ls' α β G nz G1 d1 d2 e _ ih =>
  intro t f
  obtain⟨⟨ll,lz,l1,lm⟩,t2⟩:=t
  have:=ih t2 (f.mixed hm ll lz G1 d1 d2)
  have rg:=f.rng c
  have Gle:G≤g left c:=Int.le_of_dvd (by omega) d2
  refine⟨⟨⟨zFi ll f.len _ _ _,fun i hi=>?_,?_,?_⟩,this.1⟩,by rw[List.length_cons,List.length_cons,this.2]⟩
  ·rw[zAg ll f.len,lz i hi,f.zero i hi,Int.zero_mul,Int.zero_mul,Int.add_zero,Int.zero_emod]
  ·rw[zAg ll f.len,show g l c*α+g left c*β=G by rw[Int.mul_comm,Int.mul_comm (g left c)];exact e,Int.emod_eq_of_lt (by omega) (by omega)];exact G1
  ·rw[zAg ll f.len,show g l c*α+g left c*β=G by rw[Int.mul_comm,Int.mul_comm (g left c)];exact e,Int.emod_eq_of_lt (by omega) (by omega)];exact Int.dvd_trans d1 lm
def Kill (m:Int)(k:Nat)(a:Int→Int)(ls:List (List Int)):Prop:=∀ l∈ls,m∣dt k l a
theorem back {m:Int}{K k:Nat}{l left:List Int}(ll:l.length=K)(fl:left.length=K){α β x d:Int}(e:α*d+β*x=1)(a:Int→Int)
  (h1:m∣dt k (mix l α left β m) a)(h2:m∣dt k (mix left d l (-x) m) a):m∣dt k l a∧m∣dt k left a:=by
 have a1:=(jI (dt_mix ll fl α β m k a)).mp h1
 have a2:=(jI (dt_mix fl ll d (-x) m k a)).mp h2
 generalize dt k l a=u at *
 generalize dt k left a=v at *
 constructor
 ·have b1:m∣d*(α*u+β*v):=Int.dvd_mul_of_dvd_right a1
  have b2:m∣β*(d*v + -x*u):=Int.dvd_mul_of_dvd_right a2
  have:=Int.dvd_sub b1 b2
  rwa [show d*(α*u+β*v)-β*(d*v + -x*u)=(α*d+β*x)*u by grind,e,Int.one_mul] at this
 ·have b1:m∣x*(α*u+β*v):=Int.dvd_mul_of_dvd_right a1
  have b2:m∣α*(d*v + -x*u):=Int.dvd_mul_of_dvd_right a2
  have:=Int.dvd_add b1 b2
  rwa [show x*(α*u+β*v)+α*(d*v + -x*u)=(α*d+β*x)*v by grind,e,Int.one_mul] at this
theorem bez_div {α β G u v:Int}(hG:1≤G)(d1:G∣u)(d2:G∣v)(e:α*u+β*v=G):α*(u/G)+β*(v/G)=1:=by
 obtain⟨x,rfl⟩:=d1
 obtain⟨y,rfl⟩:=d2
 rw[Int.mul_ediv_cancel_left _ (by omega),Int.mul_ediv_cancel_left _ (by omega)]
 refine Int.eq_of_mul_eq_mul_left (show G≠0 by omega) ?_
 rw[Int.mul_one]
 have:G*(α*x+β*y)=α*(G*x)+β*(G*y):=by grind
 rw[this];exact e
theorem dt_zero {k:Nat}{v:List Int}(h:∀ i,i < k→g v i=0)(a:Int→Int):dt k v a=0:=by
 unfold dt
 rw[Ld.zH (G:=fun _=>0) fun i hi=>by rw[Int.toNat_natCast,h i hi,Int.zero_mul]]
 exact Ld.jA k
theorem Ent.kill {m:Int}(hm:1≤m){K k:Nat}(a:Int→Int):∀ {c:Nat}{ls:List (List Int)}{left:List Int}{ls':List (List Int)},Ent m c ls left ls'→Tri m K c ls→Lf m K c left→c+ls.length=k→Kill m k a ls'→Kill m k a ls∧m∣dt k left a:=by
 intro c ls left ls' h
 induction h with
 | nil =>
  intro _ f e _
  refine⟨fun l hl=>(nomatch hl),?_⟩
  rw[dt_zero (fun i hi=>f.zero i (by simp at e;omega)) a];exact Int.dvd_zero _
 | @skip c l left ls ls' z _ ih =>
  intro t f e kl
  have:=ih t.2 (f.next z) (by rw[List.length_cons] at e;omega) fun y hy=>kl y (List.mem_cons_of_mem _ hy)
  refine⟨fun y hy=>?_,this.2⟩
  rcases List.mem_cons.mp hy with w | w
  ·rw[w];exact kl l List.mem_cons_self
  ·exact this.1 y w
 | @mix c l left ls ls' α β G nz G1 d1 d2 eb _ ih =>
  intro t f e kl
  obtain⟨⟨ll,lz,l1,lm⟩,t2⟩:=t
  have r:=ih t2 (f.mixed hm ll lz G1 d1 d2) (by rw[List.length_cons] at e;omega) fun y hy=>kl y (List.mem_cons_of_mem _ hy)
  have b:=back (k:=k) ll f.len (bez_div G1 d1 d2 eb) a (kl _ List.mem_cons_self) r.2
  refine⟨fun y hy=>?_,b.2⟩
  rcases List.mem_cons.mp hy with w | w
  ·rw[w];exact b.1
  ·exact r.1 y w
def How (m:Int)(k:Nat):Nat→List (List Int)→Prop
 | _,[]=>True
 | c,l::ls=>(∀ a:Int→Int,Kill m k a ls→m∣m/g l c*dt k l a)∧How m k (c+1) ls
theorem Ent.how {m:Int}(hm:1≤m){K k:Nat}:∀ {c:Nat}{ls:List (List Int)}{left:List Int}{ls':List (List Int)},Ent m c ls left ls'→Tri m K c ls→Lf m K c left→c+ls.length=k→How m k c ls→How m k c ls':=by
 intro c ls left ls' h
 induction h with
 | nil=>intro _ _ _ _;trivial
 | @skip c l left ls ls' z en ih =>
  intro t f e hw
  refine⟨fun a kl=>?_,ih t.2 (f.next z) (by rw[List.length_cons] at e;omega) hw.2⟩
  exact hw.1 a (en.kill hm a t.2 (f.next z) (by rw[List.length_cons] at e;omega) kl).1
 | @mix c l left ls ls' α β G nz G1 d1 d2 eb en ih =>
  intro t f e hw
  obtain⟨⟨ll,lz,l1,lm⟩,t2⟩:=t
  have f2:=f.mixed hm ll lz G1 d1 d2
  have e2:c+1+ls.length=k:=by rw[List.length_cons] at e;omega
  refine⟨fun a kl=>?_,ih t2 f2 e2 hw.2⟩
  obtain⟨k1,k2⟩:=en.kill hm a t2 f2 e2 kl
  have o:=hw.1 a k1
  have rg:=f.rng c
  have Gle:G≤g left c:=Int.le_of_dvd (by omega) d2
  have eG:g (Lt.mix l α left β m) c=G:=by
   rw[zAg ll f.len,show g l c*α+g left c*β=G by rw[Int.mul_comm,Int.mul_comm (g left c)];exact eb,Int.emod_eq_of_lt (by omega) (by omega)]
  rw[eG]
  have q1:=dt_mix ll f.len α β m k a
  have q2:=(jI (dt_mix f.len ll (g l c/G) (-(g left c/G)) m k a)).mp k2
  have bz:=bez_div G1 d1 d2 eb
  obtain⟨d,hd⟩:=d1
  obtain⟨x,hx⟩:=d2
  obtain⟨r,hr⟩:=lm
  have dG:g l c/G=d:=by rw[hd];exact Int.mul_ediv_cancel_left _ (by omega)
  have xG:g left c/G=x:=by rw[hx];exact Int.mul_ediv_cancel_left _ (by omega)
  have mr:m/g l c=r:=by rw[hr];exact Int.mul_ediv_cancel_left _ (by omega)
  have mG:m/G=d*r:=by
   rw[hr,hd,Int.mul_assoc];exact Int.mul_ediv_cancel_left _ (by omega)
  rw[dG,xG] at q2 bz
  rw[mr] at o
  rw[mG]
  have q3:m∣d*r*(dt k (Lt.mix l α left β m) a-(α*dt k l a+β*dt k left a)):=Int.dvd_mul_of_dvd_right q1
  generalize dt k (Lt.mix l α left β m) a=n at *
  generalize dt k l a=u at *
  generalize dt k left a=v at *
  have q4:m∣r*β*(d*v + -x*u):=Int.dvd_mul_of_dvd_right q2
  have:=Int.dvd_add (Int.dvd_add q3 q4) o
  have ee:d*r*(n-(α*u+β*v))+r*β*(d*v + -x*u)+r*u=d*r*n+r*u*(1-(α*d+β*x)):=by grind
  rw[ee,bz,Int.sub_self,Int.mul_zero,Int.add_zero] at this
  exact this
end Lt
namespace Mx
open Lt (jV jI vX)
theorem S_dvd {m:Int}{F:Int→Int}:∀ {k:Nat},(∀ i:Nat,i < k→m∣F i)→m∣Ld.S k F
 | 0,_=>Int.dvd_zero _
 | k+1,h=>Int.dvd_add (S_dvd (k:=k) fun i hi=>h i (Nat.lt_succ_of_lt hi)) (h k (Nat.lt_succ_self k))
def Ind (p:Int)(k:Nat)(M:Int→Int→Int):Prop:=∀ y:Int→Int,(∀ t:Nat,t < k→p∣Ld.S k fun s=>y s*M s t)→∀ s:Nat,s < k→p∣y s
theorem w9 {p a b:Int}(hp:Pt.Prm p)(h:p∣a*b)(na:¬ p∣a):p∣b:=by
 have c:=Pt.copr hp na
 have h1:=Int.natAbs_dvd_natAbs.mpr h
 rw[Int.natAbs_mul] at h1
 exact Int.natAbs_dvd_natAbs.mp (Nat.Coprime.dvd_of_dvd_mul_left c h1)
theorem Ind.snoc {p:Int}(hp:Pt.Prm p){k:Nat}{M:Int→Int→Int}(h:Ind p k M){x:Int→Int}(z:∀ t:Nat,t < k→p∣M k t-Ld.S k fun s=>x s*M s t)(nz:¬ p∣M k k-Ld.S k fun s=>x s*M s k):Ind p (k+1) M:=fun y hy=>by
 have e:∀ t:Int,(Ld.S (k+1) fun s=>y s*M s t)=(Ld.S k fun s=>(y s+y k*x s)*M s t)+y k*(M k t-Ld.S k fun s=>x s*M s t):=fun t=>by
  show (Ld.S k fun s=>y s*M s t)+y k*M k t=_
  have:(Ld.S k fun s=>(y s+y k*x s)*M s t)=(Ld.S k fun s=>y s*M s t)+y k*(Ld.S k fun s=>x s*M s t):=by
   rw[← Ld.vL,← Ld.wS]
   exact Ld.zH fun s _=>by grind
  rw[this];grind
 have h1:=h (fun s=>y s+y k*x s) fun t ht=>by
  have a:=hy t (Nat.lt_succ_of_lt ht)
  rw[e] at a
  have b:p∣y k*(M k t-Ld.S k fun s=>x s*M s t):=Int.dvd_mul_of_dvd_right (z t ht)
  have:=Int.dvd_sub a b
  rwa [show ∀ u v:Int,u+v-v=u from fun u v=>by omega] at this
 have yk:p∣y k:=by
  have a:=hy k (Nat.lt_succ_self k)
  rw[e] at a
  have b:p∣Ld.S k fun s=>(y s+y k*x s)*M s k:=S_dvd fun s hs=>Int.dvd_mul_of_dvd_left (h1 s hs)
  have c:=Int.dvd_sub a b
  rw[show ∀ u v:Int,u+v-u=v from fun u v=>by omega,Int.mul_comm] at c
  exact w9 hp c nz
 intro s hs
 rcases Nat.lt_succ_iff_lt_or_eq.mp hs with q | q
 ·have a:=h1 s q
  have b:p∣y k*x s:=Int.dvd_mul_of_dvd_left yk
  have:=Int.dvd_sub a b
  rwa [show y s+y k*x s-y k*x s=y s by omega] at this
 ·rw[q];exact yk
theorem Ind.zero (p:Int)(M:Int→Int→Int):Ind p 0 M:=fun y _ s hs=>absurd hs (Nat.not_lt_zero _)
theorem Ind.pow {p:Int}(p1:1≤p){k:Nat}{M:Int→Int→Int}(h:Ind p k M):∀ (e:Nat)(y:Int→Int),(∀ t:Nat,t < k→p^e∣Ld.S k fun s=>y s*M s t)→∀ s:Nat,s < k→p^e∣y s
 | 0,y,_,s,_=>by rw[Int.pow_zero];exact Int.one_dvd _
 | e+1,y,hy,s,hs=>by
  have y1:=h y fun t ht=>Int.dvd_trans ⟨p^e,by rw[Int.pow_succ,Int.mul_comm]⟩ (hy t ht)
  -- y is p times something
  have q:∀ s:Nat,s < k→y s=p*(y s/p):=fun s hs=>(Int.mul_ediv_cancel' (y1 s hs)).symm
  have r:=Ind.pow p1 h e (fun s=>y s/p) (fun t ht=>by
   obtain⟨c,hc⟩:=hy t ht
   have e1:(Ld.S k fun s=>y s*M s t)=p*Ld.S k fun s=>y s/p*M s t:=by
    rw[← Ld.vL]
    refine Ld.zH fun s hs=>?_
    rw[← Int.mul_assoc,← q s hs]
   rw[e1] at hc
   refine⟨c,Int.eq_of_mul_eq_mul_left (show p≠0 by omega) ?_⟩
   rw[hc,Int.pow_succ];grind) s hs
  obtain⟨c,hc⟩:=r
  refine⟨c,?_⟩
  rw[q s hs,hc,Int.pow_succ];grind
def LI (m:Int)(k:Nat)(U M:Int→Int→Int):Prop:=∀ i j:Nat,i < k→j < k→m∣(Ld.S k fun t=>U i t*M t j)-if i=j then 1 else 0
theorem wC {k:Nat}{F:Int→Int}{j:Nat}(hj:j < k):(Ld.S k fun t=>F t*if t=(j:Int) then 1 else 0)=F j:=by
 have:(Ld.S k fun t=>F t*if t=(j:Int) then 1 else 0)=Ld.S k fun t=>if t=(j:Int) then F t else 0:=Ld.zH fun t _=>by
  by_cases c:(t:Int)=j
  ·rw[if_pos c,if_pos c,Int.mul_one]
  ·rw[if_neg c,if_neg c,Int.mul_zero]
 rw[this,Ld.S_one (by omega),if_pos (by omega)]
theorem LI.right {p:Int}(p1:1≤p){e k:Nat}{U M:Int→Int→Int}(h:LI (p^e) k U M)(ind:Ind p k M):∀ i j:Nat,i < k→j < k→p^e∣(Ld.S k fun t=>M i t*U t j)-if i=j then 1 else 0:=fun i j hi hj=>by
 have key:∀ t:Nat,t < k→p^e∣Ld.S k fun s=>((Ld.S k fun u=>M i u*U u s)-if (i:Int)=s then 1 else 0)*M s t:=fun t ht=>by
  -- (M U-1) M=M (U M)-M
  have e1:(Ld.S k fun s=>((Ld.S k fun u=>M i u*U u s)-if (i:Int)=s then 1 else 0)*M s t)=(Ld.S k fun u=>M i u*Ld.S k fun s=>U u s*M s t)-M i t:=by
   have a1:(Ld.S k fun s=>((Ld.S k fun u=>M i u*U u s)-if (i:Int)=s then 1 else 0)*M s t)=(Ld.S k fun s=>Ld.S k fun u=>M i u*(U u s*M s t))+Ld.S k fun s=>-1*(M s t*if s=(i:Int) then 1 else 0):=by
    rw[← Ld.wS]
    refine Ld.zH fun s _=>?_
    rw[Int.sub_mul,← Ld.zDr]
    have:(Ld.S k fun u=>M i u*U u s*M s t)=Ld.S k fun u=>M i u*(U u s*M s t):=Ld.zH fun u _=>Int.mul_assoc ..
    rw[this]
    by_cases c:(s:Int)=i
    ·rw[if_pos c.symm,if_pos c];omega
    ·rw[if_neg (fun z=>c z.symm),if_neg c];omega
   rw[a1,Ld.jH,Ld.vL,wC hi]
   have:(Ld.S k fun u=>Ld.S k fun s=>M i u*(U u s*M s t))=Ld.S k fun u=>M i u*Ld.S k fun s=>U u s*M s t:=Ld.zH fun u _=>by rw[Ld.vL]
   rw[this];omega
  rw[e1]
  have e2:M i t=Ld.S k fun u=>M i u*if u=(t:Int) then 1 else 0:=(wC ht).symm
  rw[e2]
  refine jV fun u hu=>?_
  rw[← Int.mul_sub]
  refine Int.dvd_mul_of_dvd_right ?_
  have:=h u t hu ht
  by_cases c:u=t
  ·rw[if_pos c] at this;rw[if_pos (by omega)];exact this
  ·rw[if_neg c] at this;rw[if_neg (by omega)];exact this
 have z:p^e∣(Ld.S k fun t=>M i t*U t j)-if (i:Int)=j then 1 else 0:=ind.pow p1 e (fun s=>(Ld.S k fun u=>M i u*U u s)-if (i:Int)=s then 1 else 0) key j hj
 by_cases c:i=j
 ·rw[if_pos c];rwa [if_pos (by omega)] at z
 ·rw[if_neg c];rwa [if_neg (by omega)] at z
end Mx
namespace Pg
theorem pigeon:∀ {M N:Nat}(f:Nat→Nat),M < N→(∀ i,i < N→f i < M)→∃ i j,i < j∧j < N∧f i=f j
 | 0,N,f,h,lt=>absurd (lt 0 h) (Nat.not_lt_zero _)
 | M+1,0,f,h,lt=>absurd h (Nat.not_lt_zero _)
 | M+1,N+1,f,h,lt=>by
  -- the value of the last one is taken out
  by_cases c:∃ i,i < N∧f i=f N
  ·obtain⟨i,hi,e⟩:=c
   exact⟨i,N,hi,Nat.lt_succ_self N,e⟩
  ·let g:Nat→Nat:=fun i=>if f i=M then f N else f i
   have gl:∀ i,i < N→g i < M:=fun i hi=>by
    have a:=lt i (Nat.lt_succ_of_lt hi)
    have b:=lt N (Nat.lt_succ_self N)
    show (if f i=M then f N else f i) < M
    by_cases z:f i=M
    ·rw[if_pos z]
     have:f N≠M:=fun y=>c ⟨i,hi,z.trans y.symm⟩
     omega
    ·rw[if_neg z];omega
   obtain⟨i,j,ij,jN,e⟩:=pigeon g (show M < N by omega) gl
   refine⟨i,j,ij,Nat.lt_succ_of_lt jN,?_⟩
   have e':(if f i=M then f N else f i)=if f j=M then f N else f j:=e
   by_cases zi:f i=M
   ·by_cases zj:f j=M
    ·rw[zi,zj]
    ·rw[if_pos zi,if_neg zj] at e'
     exact absurd ⟨j,jN,e'.symm⟩ c
   ·by_cases zj:f j=M
    ·rw[if_neg zi,if_pos zj] at e'
     exact absurd ⟨i,Nat.lt_trans ij jN,e'⟩ c
    ·rwa [if_neg zi,if_neg zj] at e'
theorem least {P:Nat→Prop}:∀ {n:Nat},P n→∃ k,P k∧∀ j,j < k→¬ P j:=by
 intro n
 induction n using Nat.strongRecOn with
 | ind n ih =>
  intro h
  by_cases c:∃ j,j < n∧P j
  ·obtain⟨j,jn,hj⟩:=c;exact ih j jn hj
  ·exact⟨n,h,fun j jn hj=>c ⟨j,jn,hj⟩⟩
def sq (N:Nat):Nat→Nat→Nat
 | 0,x=>x
 | k+1,x=>sq N k (x*x%N)
end Pg
namespace Sg
def enc (R:Nat):Nat→(Nat→Nat)→Nat
 | 0,_=>0
 | k+1,e=>enc R k e+R^k*e k
theorem zGm {R:Nat}{e:Nat→Nat}:∀ {k:Nat},(∀ i,i < k→e i < R)→enc R k e < R^k
 | 0,_=>by rw[Nat.pow_zero];exact Nat.one_pos
 | k+1,h=>by
  have a:=zGm (k:=k) fun i hi=>h i (Nat.lt_succ_of_lt hi)
  have b:=Nat.mul_le_mul_left (R^k) (show e k+1≤R from h k (Nat.lt_succ_self k))
  show enc R k e+R^k*e k < R^(k+1)
  rw[Nat.pow_succ]
  rw[Nat.mul_succ] at b
  omega
theorem enc_inj {R:Nat}{e f:Nat→Nat}:∀ {k:Nat},(∀ i,i < k→e i < R)→(∀ i,i < k→f i < R)→enc R k e=enc R k f→∀ i,i < k→e i=f i
 | 0,_,_,_,i,hi=>absurd hi (Nat.not_lt_zero _)
 | k+1,he,hf,h,i,hi=>by
  have a:=zGm (k:=k) fun i hi=>he i (Nat.lt_succ_of_lt hi)
  have b:=zGm (k:=k) fun i hi=>hf i (Nat.lt_succ_of_lt hi)
  have p:0 < R^k:=by omega
  have h':enc R k e+R^k*e k=enc R k f+R^k*f k:=h
  have ek:e k=f k:=by
   have:(enc R k e+R^k*e k)/R^k=(enc R k f+R^k*f k)/R^k:=by rw[h']
   rwa [Nat.add_mul_div_left _ _ p,Nat.add_mul_div_left _ _ p,Nat.div_eq_of_lt a,Nat.div_eq_of_lt b,Nat.zero_add,Nat.zero_add] at this
  rcases Nat.lt_succ_iff_lt_or_eq.mp hi with z | z
  ·refine enc_inj (k:=k) (fun i hi=>he i (Nat.lt_succ_of_lt hi)) (fun i hi=>hf i (Nat.lt_succ_of_lt hi)) ?_ i z
   rw[ek] at h'
   omega
  ·rw[z];exact ek
def dig (b n j:Nat):Nat:=n/b^j%b
theorem dig_inj {b:Nat}(hb:0 < b):∀ {k n m:Nat},n < b^k→m < b^k→(∀ j,j < k→dig b n j=dig b m j)→n=m
 | 0,n,m,hn,hm,_=>by rw[Nat.pow_zero] at hn hm;omega
 | k+1,n,m,hn,hm,h=>by
  have h0:=h 0 (Nat.succ_pos k)
  unfold dig at h0
  rw[Nat.pow_zero,Nat.div_one,Nat.div_one] at h0
  have h1:n/b=m/b:=by
   refine dig_inj hb (k:=k) ?_ ?_ fun j hj=>?_
   ·rw[Nat.pow_succ,Nat.mul_comm] at hn;exact Nat.div_lt_of_lt_mul hn
   ·rw[Nat.pow_succ,Nat.mul_comm] at hm;exact Nat.div_lt_of_lt_mul hm
   ·have:=h (j+1) (Nat.succ_lt_succ hj)
    unfold dig at this ⊢
    rw[Nat.div_div_eq_div_mul,Nat.div_div_eq_div_mul,Nat.mul_comm b,← Nat.pow_succ]
    exact this
  rw[← Nat.div_add_mod n b,← Nat.div_add_mod m b,h0,h1]
theorem S_bd {F:Int→Int}{B:Nat}:∀ {m:Nat},(∀ j:Nat,j < m→(F j).natAbs≤B)→(Ld.S m F).natAbs≤m*B
 | 0,_=>by simp [Ld.S]
 | m+1,h=>by
  have a:=S_bd (m:=m) fun j hj=>h j (Nat.lt_succ_of_lt hj)
  have b:=h m (Nat.lt_succ_self m)
  show (Ld.S m F+F m).natAbs≤(m+1)*B
  rw[Nat.succ_mul]
  omega
def bnd (k C:Nat):Nat:=(2*((k+1)*C)+1)^k
theorem siegel (k C:Nat)(hC:1≤C)(a:Nat→Int→Int)(ha:∀ i j:Nat,i < k→j < k+1→(a i j).natAbs≤C) :
  ∃ x:Int→Int,(∃ j:Nat,j < k+1∧x j≠0)∧(∀ j:Nat,(x j).natAbs≤bnd k C)∧∀ i,i < k→Ld.S (k+1) (fun j=>a i j*x j)=0:=by
 obtain⟨T,hT⟩:∃ T,T=bnd k C:=⟨_,rfl⟩
 have T1:1≤T:=by rw[hT];unfold bnd;exact Nat.pow_pos (by omega)
 obtain⟨S,hS⟩:∃ S,S=(k+1)*C*T:=⟨_,rfl⟩
 let v:Nat→Int→Int:=fun n j=>(dig (T+1) n j.toNat:Nat)
 let L:Nat→Nat→Int:=fun n i=>Ld.S (k+1) fun j=>a i j*v n j
 have vb:∀ n (j:Nat),0≤v n j∧(v n j).natAbs≤T:=fun n j=>by
  have:dig (T+1) n (j:Int).toNat < T+1:=Nat.mod_lt _ (by omega)
  show 0≤((dig (T+1) n (j:Int).toNat:Nat):Int)∧(((dig (T+1) n (j:Int).toNat:Nat):Int)).natAbs≤T
  omega
 have Lb:∀ n i,i < k→(L n i).natAbs≤S:=fun n i hi=>by
  rw[hS,Nat.mul_assoc]
  refine S_bd fun j hj=>?_
  rw[Int.natAbs_mul]
  exact Nat.mul_le_mul (ha i j hi hj) (vb n j).2
 let e:Nat→Nat→Nat:=fun n i=>(L n i+S).toNat
 have eb:∀ n i,i < k→e n i < 2*S+1:=fun n i hi=>by
  have:=Lb n i hi
  show (L n i+S).toNat < 2*S+1
  omega
 have many:(2*S+1)^k < (T+1)^(k+1):=by
  have h1:2*S+1≤(2*((k+1)*C)+1)*T:=by
   rw[hS]
   generalize (k+1)*C=D
   rw[Nat.add_mul,Nat.one_mul,Nat.mul_assoc];omega
  have h2:=Nat.pow_le_pow_left h1 k
  rw[Nat.mul_pow] at h2
  have h3:(2*((k+1)*C)+1)^k=T:=by rw[hT];rfl
  rw[h3] at h2
  have h4:T*T^k=T^(k+1):=by rw[Nat.pow_succ,Nat.mul_comm]
  rw[h4] at h2
  exact Nat.lt_of_le_of_lt h2 (Nat.pow_lt_pow_left (Nat.lt_succ_self T) (by omega))
 obtain⟨p,q,pq,qN,eq⟩:=Pg.pigeon (fun n=>enc (2*S+1) k (e n)) many fun n _=>zGm (eb n)
 have same:=enc_inj (eb p) (eb q) eq
 refine⟨fun j=>v p j-v q j,?_,fun j=>?_,fun i hi=>?_⟩
 ·by_cases c:∃ j:Nat,j < k+1∧v p j-v q j≠0
  ·exact c
  ·exfalso
   have:p=q:=dig_inj (b:=T+1) (Nat.succ_pos T) (Nat.lt_trans pq qN) qN fun j hj=>by
    have z:v p j-v q j=0:=by
     by_cases y:v p j-v q j=0
     ·exact y
     ·exact absurd ⟨j,hj,y⟩ c
    have z':((dig (T+1) p (j:Int).toNat:Nat):Int)-((dig (T+1) q (j:Int).toNat:Nat):Int)=0:=z
    rw[Int.toNat_natCast] at z'
    omega
   omega
 ·have a1:=vb p j
  have a2:=vb q j
  rw[← hT]
  show (v p j-v q j).natAbs≤T
  omega
 ·have s:=same i hi
  have l1:=Lb p i hi
  have l2:=Lb q i hi
  have s':(L p i+S).toNat=(L q i+S).toNat:=s
  have ll:L p i=L q i:=by omega
  have e1:(Ld.S (k+1) fun j=>a i j*(v p j-v q j))=Ld.S (k+1) fun j=>a i j*v p j + -1*(a i j*v q j):=Ld.zH fun j _=>by rw[Int.mul_sub];omega
  rw[e1,Ld.wS,Ld.vL]
  show L p i + -1*L q i=0
  omega
end Sg
namespace Mx
def CI (p:Int)(k:Nat)(R:Int→Int→Int):Prop:=∀ y:Int→Int,(∀ i:Nat,i < k→p∣Ld.S k fun t=>R i t*y t)→∀ t:Nat,t < k→p∣y t
theorem CI.ind {p:Int}{k:Nat}{R:Int→Int→Int}(h:CI p k R):Ind p k (fun s t=>R t s):=fun y hy t ht=>h y (fun i hi=>by
 have:=hy i hi
 rwa [Ld.zH (G:=fun t=>R i t*y t) fun t _=>Int.mul_comm ..] at this) t ht
theorem Ind.ci {p:Int}{k:Nat}{M:Int→Int→Int}(h:Ind p k M):CI p k (fun s t=>M t s):=fun y hy t ht=>h y (fun i hi=>by
 have:=hy i hi
 rwa [Ld.zH (G:=fun t=>y t*M t i) fun t _=>Int.mul_comm ..] at this) t ht
theorem CI.pow {p:Int}(p1:1≤p){k:Nat}{R:Int→Int→Int}(h:CI p k R)(e:Nat){y:Int→Int}(hy:∀ i:Nat,i < k→p^e∣Ld.S k fun t=>R i t*y t):∀ t:Nat,t < k→p^e∣y t :=
 h.ind.pow p1 e y fun i hi=>by
  have:=hy i hi
  rwa [Ld.zH (G:=fun t=>y t*R i t) fun t _=>Int.mul_comm ..] at this
theorem LI.ci {m:Int}{k:Nat}{U M:Int→Int→Int}(h:LI m k U M){p:Int}(pm:p∣m):CI p k M:=fun y hy t ht=>by
 have e1:p∣Ld.S k fun i=>U t i*Ld.S k fun j=>M i j*y j:=S_dvd fun i hi=>Int.dvd_mul_of_dvd_right (hy i hi)
 have e2:(Ld.S k fun i=>U t i*Ld.S k fun j=>M i j*y j)=Ld.S k fun j=>y j*Ld.S k fun i=>U t i*M i j:=by
  have a:(Ld.S k fun i=>U t i*Ld.S k fun j=>M i j*y j)=Ld.S k fun i=>Ld.S k fun j=>y j*(U t i*M i j):=Ld.zH fun i _=>by
   rw[← Ld.vL];exact Ld.zH fun j _=>by grind
  rw[a,Ld.jH]
  exact Ld.zH fun j _=>by rw[Ld.vL]
 rw[e2] at e1
 have e3:p∣(Ld.S k fun j=>y j*Ld.S k fun i=>U t i*M i j)-Ld.S k fun j=>y j*if j=(t:Int) then 1 else 0:=Lt.jV fun j hj=>by
  rw[← Int.mul_sub]
  refine Int.dvd_mul_of_dvd_right (Int.dvd_trans pm ?_)
  have:=h t j ht hj
  by_cases c:t=j
  ·rw[if_pos c] at this;rw[if_pos (by omega)];exact this
  ·rw[if_neg c] at this;rw[if_neg (by omega)];exact this
 rw[wC ht] at e3
 exact (Lt.jI e3).mp e1
theorem pow_big {p:Int}(p2:2≤p):∀ e:Nat,(e:Int) < p^e
 | 0=>by rw[Int.pow_zero];decide
 | e+1=>by
  have a:=pow_big p2 e
  have b:=Int.mul_le_mul_of_nonneg_left p2 (show 0≤p^e by omega)
  rw[Int.pow_succ];omega
theorem CI.inj {p:Int}(p2:2≤p){k:Nat}{R:Int→Int→Int}(h:CI p k R){y:Int→Int}(hy:∀ i:Nat,i < k→(Ld.S k fun t=>R i t*y t)=0)(t:Nat)(ht:t < k):y t=0:=by
 have d:=h.pow (by omega) (y t).natAbs (fun i hi=>by rw[hy i hi];exact Int.dvd_zero _) t ht
 have b:=pow_big p2 (y t).natAbs
 by_cases z:y t=0
 ·exact z
 ·have:=Int.le_of_dvd (show (0:Int) < (y t).natAbs by omega) (Int.dvd_natAbs.mpr d)
  omega
theorem sol_ex {p:Int}(hp:Pt.Prm p){k C:Nat}(hC:1≤C){R:Int→Int→Int}{goal:Int→Int}(ci:CI p k R)(hR:∀ i t:Nat,i < k→t < k→(R i t).natAbs≤C)(hg:∀ i:Nat,i < k→(goal i).natAbs≤C) :
  ∃ (x:Int→Int)(s:Int),0 < s∧¬ p∣s∧(∀ i:Nat,i < k→(Ld.S k fun t=>R i t*x t)=s*goal i)∧(∀ t:Nat,t < k→(x t).natAbs≤Sg.bnd k C)∧s≤Sg.bnd k C∧∀ d:Int,d∣s→(∀ t:Nat,t < k→d∣x t)→d∣1:=by
 have p2:=hp.1
 obtain⟨z,⟨j,hj,zj⟩,zb,ze⟩:=Sg.siegel k C hC (fun i j=>if j < k then R i j else -goal i) fun i j hi hj=>by
  show (if (j:Int) < k then R i j else -goal i).natAbs≤C
  by_cases c:(j:Int) < k
  ·rw[if_pos c];exact hR i j hi (by omega)
  ·rw[if_neg c,Int.natAbs_neg];exact hg i hi
 have ze':∀ i:Nat,i < k→(Ld.S k fun t=>R i t*z t)=z k*goal i:=fun i hi=>by
  have a:=ze i hi
  have b:(Ld.S (k+1) fun j=>(if j < (k:Int) then R i j else -goal i)*z j)=(Ld.S k fun t=>R i t*z t) + -goal i*z k:=by
   show (Ld.S k fun j=>(if j < (k:Int) then R i j else -goal i)*z j)+(if (k:Int) < k then R i k else -goal i)*z k=_
   rw[if_neg (by omega),Ld.zH (G:=fun t=>R i t*z t) fun t ht=>by rw[if_pos (by omega)]]
  rw[b] at a
  have:-goal i*z k=-(z k*goal i):=by grind
  omega
 have zk:z k≠0:=fun q=>by
  have all:=ci.inj p2 (y:=z) fun i hi=>by rw[ze' i hi,q,Int.zero_mul]
  rcases Nat.lt_succ_iff_lt_or_eq.mp hj with y | y
  ·exact zj (all j y)
  ·rw[y] at zj;exact zj q
 -- the least bottom
 obtain⟨s,⟨s0,x,hx⟩,mn⟩:=Pg.least (P:=fun s:Nat=>0 < s∧∃ x:Int→Int,∀ i:Nat,i < k→(Ld.S k fun t=>R i t*x t)=s*goal i) (n:=(z k).natAbs) ⟨by omega,by
  rcases Int.lt_or_le (z k) 0 with q | q
  ·refine⟨fun t=>-1*z t,fun i hi=>?_⟩
   have:(Ld.S k fun t=>R i t*(-1*z t))=-1*Ld.S k fun t=>R i t*z t:=by rw[← Ld.vL];exact Ld.zH fun t _=>by grind
   rw[this,ze' i hi,show ((z k).natAbs:Int)=-z k by omega];grind
  ·refine⟨z,fun i hi=>?_⟩
   rw[ze' i hi,show ((z k).natAbs:Int)=z k by omega]⟩
 have sle:s≤(z k).natAbs:=by
  rcases Nat.lt_or_ge (z k).natAbs s with q | q
  ·refine absurd ?_ (mn _ q)
   refine⟨by omega,?_⟩
   rcases Int.lt_or_le (z k) 0 with q | q
   ·refine⟨fun t=>-1*z t,fun i hi=>?_⟩
    have:(Ld.S k fun t=>R i t*(-1*z t))=-1*Ld.S k fun t=>R i t*z t:=by rw[← Ld.vL];exact Ld.zH fun t _=>by grind
    rw[this,ze' i hi,show ((z k).natAbs:Int)=-z k by omega];grind
   ·refine⟨z,fun i hi=>?_⟩
    rw[ze' i hi,show ((z k).natAbs:Int)=z k by omega]
  ·exact q
 have one:∀ d:Int,d∣(s:Int)→(∀ t:Nat,t < k→d∣x t)→d∣1:=fun d ds dx=>by
  have d0:d≠0:=fun q=>by rw[q] at ds;have:=Int.zero_dvd.mp ds;omega
  obtain⟨c,hc⟩:=ds
  by_cases q:d.natAbs=1
  ·exact Int.natAbs_dvd_natAbs.mp (by rw[q];exact Nat.dvd_refl 1)
  ·exfalso
   have e:s=d.natAbs*c.natAbs:=by have:=congrArg Int.natAbs hc;rwa [Int.natAbs_natCast,Int.natAbs_mul] at this
   have c0:0 < c.natAbs:=by rcases Nat.eq_zero_or_pos c.natAbs with w | w;(rw[w,Nat.mul_zero] at e;omega);exact w
   have lt:c.natAbs < s:=by
    rw[e]
    have:2≤d.natAbs:=by omega
    have:=Nat.mul_le_mul_right c.natAbs this
    omega
   refine mn _ lt ⟨c0,fun t=>(if 0≤c then 1 else -1)*(x t/d),fun i hi=>?_⟩
   refine Int.eq_of_mul_eq_mul_left d0 ?_
   have a:d*(Ld.S k fun t=>R i t*((if 0≤c then 1 else -1)*(x t/d)))=(if 0≤c then 1 else -1)*Ld.S k fun t=>R i t*x t:=by
    rw[← Ld.vL,← Ld.vL]
    refine Ld.zH fun t ht=>?_
    have:=Int.mul_ediv_cancel' (dx t ht)
    generalize x t/d=u at this
    rw[← this];grind
   rw[a,hx i hi,hc]
   by_cases w:0≤c
   ·rw[if_pos w,show (c.natAbs:Int)=c by omega];grind
   ·rw[if_neg w,show (c.natAbs:Int)=-c by omega];grind
 refine⟨x,s,by omega,fun q=>?_,hx,fun t ht=>?_,?_,one⟩
 ·have:p∣1:=one p q fun t ht=>ci x (fun i hi=>by rw[hx i hi];exact Int.dvd_mul_of_dvd_left q) t ht
  have:=Int.le_of_dvd (by decide) this
  omega
 ·-- z k times x is s times z
  have e:=ci.inj p2 (y:=fun t=>z k*x t-s*z t) (fun i hi=>by
   have:(Ld.S k fun t=>R i t*(z k*x t-s*z t))=z k*(Ld.S k fun t=>R i t*x t) + -s*Ld.S k fun t=>R i t*z t:=by
    rw[← Ld.vL,← Ld.vL,← Ld.wS];exact Ld.zH fun t _=>by grind
   rw[this,hx i hi,ze' i hi];grind) t ht
  have e':z k*x t=s*z t:=by
   have:z k*x t-s*z t=0:=e
   omega
  have n:=congrArg Int.natAbs e'
  rw[Int.natAbs_mul,Int.natAbs_mul,Int.natAbs_natCast] at n
  have b:=Nat.mul_le_mul_right (z t).natAbs sle
  rw[← n] at b
  have:=Nat.le_of_mul_le_mul_left b (show 0 < (z k).natAbs by omega)
  exact Nat.le_trans this (zb t)
 ·have:=zb k
  omega
end Mx
namespace Mx
def RI (m:Int)(k:Nat)(R U:Int→Int→Int):Prop:=∀ i j:Nat,i < k→j < k→m∣(Ld.S k fun t=>R i t*U t j)-if i=j then 1 else 0
theorem lift {m:Int}{k:Nat}{R U:Int→Int→Int}(h:RI m k R U){left more:Int→Int}(hm:∀ t:Nat,t < k→m∣more t-Ld.S k fun j=>U t j*left j)(i:Nat)(hi:i < k):m∣left i-Ld.S k fun t=>R i t*more t:=by
 have e1:m∣(Ld.S k fun t=>R i t*more t)-Ld.S k fun t=>R i t*Ld.S k fun j=>U t j*left j:=Lt.jV fun t ht=>by
  rw[← Int.mul_sub];exact Int.dvd_mul_of_dvd_right (hm t ht)
 have e2:(Ld.S k fun t=>R i t*Ld.S k fun j=>U t j*left j)=Ld.S k fun j=>left j*Ld.S k fun t=>R i t*U t j:=by
  have a:(Ld.S k fun t=>R i t*Ld.S k fun j=>U t j*left j)=Ld.S k fun t=>Ld.S k fun j=>left j*(R i t*U t j):=Ld.zH fun t _=>by
   rw[← Ld.vL];exact Ld.zH fun j _=>by grind
  rw[a,Ld.jH]
  exact Ld.zH fun j _=>by rw[Ld.vL]
 have e3:m∣(Ld.S k fun j=>left j*Ld.S k fun t=>R i t*U t j)-Ld.S k fun j=>left j*if j=(i:Int) then 1 else 0:=Lt.jV fun j hj=>by
  rw[← Int.mul_sub]
  refine Int.dvd_mul_of_dvd_right ?_
  have:=h i j hi hj
  by_cases c:i=j
  ·rw[if_pos c] at this;rw[if_pos (by omega)];exact this
  ·rw[if_neg c] at this;rw[if_neg (by omega)];exact this
 rw[wC hi] at e3
 rw[e2] at e1
 have:=Int.dvd_neg.mpr (Int.dvd_add e1 e3)
 rwa [show ∀ a b c:Int,-(a-b+(b-c))=c-a from fun a b c=>by omega] at this
structure Lif (k:Nat)(R:Int→Int→Int)(goal:Int→Int)(scale:Int)(r left:Int→Int):Prop where
 eq:∀ i:Nat,i < k→(Ld.S k fun t=>R i t*r t)+scale*left i=goal i
 rg:∀ t:Nat,t < k→0≤r t∧r t < scale
theorem Lif.start (k:Nat)(R:Int→Int→Int)(goal:Int→Int):Lif k R goal 1 (fun _=>0) goal:=⟨fun i _=>by
 rw[Ld.zH (G:=fun _=>0) fun t _=>Int.mul_zero _,Ld.jA,Int.zero_add,Int.one_mul],fun t _=>⟨Int.le_refl 0,by decide⟩⟩
theorem Lif.step {m:Int}(hm:1≤m){k:Nat}{R U:Int→Int→Int}(ri:RI m k R U){goal:Int→Int}{scale:Int}(hs:1≤scale){r left:Int→Int}(h:Lif k R goal scale r left){more zAm:Int→Int}(em:∀ t:Nat,t < k→more t=(Ld.S k fun j=>U t j*left j)%m)(el:∀ i:Nat,i < k→zAm i=(left i-Ld.S k fun t=>R i t*more t)/m) :
  Lif k R goal (scale*m) (fun t=>r t+scale*more t) zAm:=by
 refine⟨fun i hi=>?_,fun t ht=>?_⟩
 ·have d:=lift ri (left:=left) (more:=more) (fun t ht=>by rw[em t ht];exact Lt.vX _ _) i hi
  have q:=Int.mul_ediv_cancel' d
  rw[← el i hi] at q
  have a:(Ld.S k fun t=>R i t*(r t+scale*more t))=(Ld.S k fun t=>R i t*r t)+scale*Ld.S k fun t=>R i t*more t:=by
   rw[← Ld.vL,← Ld.wS];exact Ld.zH fun t _=>by grind
  rw[a,← h.eq i hi]
  generalize (Ld.S k fun t=>R i t*more t)=x at *
  rw[Int.mul_assoc,q];grind
 ·have a:=h.rg t ht
  have b0:=Int.emod_nonneg (Ld.S k fun j=>U t j*left j) (show m≠0 by omega)
  have b1:=Int.emod_lt_of_pos (Ld.S k fun j=>U t j*left j) (show 0 < m by omega)
  rw[← em t ht] at b0 b1
  have c0:=Int.mul_nonneg (show 0≤scale by omega) b0
  have c1:=Int.mul_le_mul_of_nonneg_left (show more t≤m-1 by omega) (show 0≤scale by omega)
  rw[Int.mul_sub,Int.mul_one] at c1
  show 0≤r t+scale*more t∧r t+scale*more t < scale*m
  omega
theorem Lif.rest {p:Int}(p1:1≤p){k:Nat}{R:Int→Int→Int}(ci:CI p k R){goal:Int→Int}{e:Nat}{r left:Int→Int}(h:Lif k R goal (p^e) r left){x:Int→Int}{s:Int}(hx:∀ i:Nat,i < k→(Ld.S k fun t=>R i t*x t)=s*goal i)(t:Nat)(ht:t < k):p^e∣s*r t-x t :=
 ci.pow p1 e (y:=fun t=>s*r t-x t) (fun i hi=>by
  have:(Ld.S k fun t=>R i t*(s*r t-x t))=s*(Ld.S k fun t=>R i t*r t) + -1*Ld.S k fun t=>R i t*x t:=by
   rw[← Ld.vL,← Ld.vL,← Ld.wS];exact Ld.zH fun t _=>by grind
  rw[this,hx i hi,← h.eq i hi]
  exact⟨-(s*left i),by grind⟩) t ht
theorem cop_pow {p:Int}(hp:Pt.Prm p){a:Int}(h:¬ p∣a):∀ (e:Nat){y:Int},p^e∣a*y→p^e∣y
 | 0,y,_=>by rw[Int.pow_zero];exact Int.one_dvd y
 | e+1,y,d=>by
  have p2:=hp.1
  have py:p∣y:=w9 hp (Int.dvd_trans ⟨p^e,by rw[Int.pow_succ,Int.mul_comm]⟩ d) h
  obtain⟨z,hz⟩:=py
  obtain⟨c,hc⟩:=d
  have:p^e∣a*z:=⟨c,Int.eq_of_mul_eq_mul_left (show p≠0 by omega) (by
   rw[hz,Int.pow_succ] at hc
   have e1:p*(a*z)=a*(p*z):=by grind
   have e2:p*(p^e*c)=p^e*p*c:=by grind
   rw[e1,e2];exact hc)⟩
  obtain⟨w,hw⟩:=cop_pow hp h e this
  exact⟨w,by rw[hz,hw,Int.pow_succ];grind⟩
theorem frac {p:Int}(hp:Pt.Prm p){e:Nat}{s b r x:Int}(s0:0 < s)(ps:¬ p∣s)(b0:0 < b)(bs:b∣s)(hr:p^e∣s*r-x){B H:Int}(sB:s≤B)(xB:(x.natAbs:Int)≤B)(hH:4*B≤H)(HH:H*H≤p^e)
  {r0 r1 c0 c1:Int}(st:Eb.St (p^e) (r*b%p^e) r0 r1 c0 c1)(h0:H≤r0)(h1:r1 < H):0 < (c1.natAbs:Int)∧b*c1.natAbs∣s∧s∣b*c1.natAbs*x:=by
 have p2:=hp.1
 have sc:0 < p^e:=by have:=pow_big (p:=p) (by omega) e;omega
 obtain⟨S1,hS⟩:=bs
 have S0:0 < S1:=by
  rcases Int.lt_or_le 0 S1 with z | z
  ·exact z
  ·have:=Int.mul_le_mul_of_nonneg_left z (show 0≤b by omega);omega
 obtain⟨G,hG⟩:∃ G:Nat,G=Int.gcd S1 x:=⟨_,rfl⟩
 obtain⟨s',hs'⟩:(G:Int)∣S1:=by rw[hG];exact Int.gcd_dvd_left ..
 obtain⟨x',hx'⟩:(G:Int)∣x:=by rw[hG];exact Int.gcd_dvd_right ..
 have G0:0 < (G:Int):=by
  rcases Nat.eq_zero_or_pos G with z | z
  ·rw[z] at hs';have:S1=0:=by rw[hs'];exact Int.zero_mul _
   omega
  ·omega
 have s'0:0 < s':=by
  rcases Int.lt_or_le 0 s' with z | z
  ·exact z
  ·have:=Int.mul_le_mul_of_nonneg_left z (show 0≤(G:Int) by omega);omega
 have cop:Int.gcd s' x'=1:=by
  rw[hs',hx',Int.gcd_mul_left,Int.natAbs_natCast] at hG
  have:G*1=G*Int.gcd s' x':=by rw[Nat.mul_one];exact hG
  exact (Nat.eq_of_mul_eq_mul_left (show 0 < G by omega) this).symm
 have pG:¬ p∣(G:Int):=fun z=>ps (by rw[hS,hs'];exact Int.dvd_mul_of_dvd_right (Int.dvd_mul_of_dvd_left z))
 -- the fraction x'/s' leaves this rest
 have d1:p^e∣s'*(r*b%p^e)-x':=by
  have a:p^e∣(G:Int)*(s'*(r*b)-x'):=by
   have:(G:Int)*(s'*(r*b)-x')=s*r-x:=by rw[hS,hs',hx'];grind
   rw[this];exact hr
  have b':=cop_pow hp pG e a
  have c:=Lt.vX (r*b) (p^e)
  have c':p^e∣s'*(r*b%p^e-r*b):=Int.dvd_mul_of_dvd_right c
  have:=Int.dvd_add b' c'
  rwa [show s'*(r*b)-x'+s'*(r*b%p^e-r*b)=s'*(r*b%p^e)-x' by grind] at this
 obtain⟨k,hk⟩:=d1
 have s'S:s'≤S1:=by have:=Int.mul_le_mul_of_nonneg_right (show 1≤(G:Int) by omega) (show 0≤s' by omega);omega
 have Ss:S1≤s:=by have:=Int.mul_le_mul_of_nonneg_right (show 1≤b by omega) (show 0≤S1 by omega);omega
 have xx:(x'.natAbs:Int)≤B:=by
  have:x.natAbs=G*x'.natAbs:=by rw[hx',Int.natAbs_mul,Int.natAbs_natCast]
  have:=Nat.mul_le_mul_right x'.natAbs (show 1≤G by omega)
  omega
 have cr:=st.cross (by omega)
 have B0:0≤B:=by omega
 have small:(x'.natAbs:Int)*c1.natAbs+s'*r1 < p^e:=by
  have q1:=Int.mul_nonneg st.p1 (show (0:Int)≤c0.natAbs by omega)
  have q2:H*c1.natAbs≤p^e:=by
   have:=Int.mul_le_mul_of_nonneg_right h0 (show (0:Int)≤c1.natAbs by omega)
   omega
  have q3:4*((x'.natAbs:Int)*c1.natAbs)≤H*c1.natAbs:=by
   have:=Int.mul_le_mul_of_nonneg_right (show 4*(x'.natAbs:Int)≤H by omega) (show (0:Int)≤c1.natAbs by omega)
   rw[Int.mul_assoc] at this;exact this
  have q4:4*(s'*r1)≤H*H:=by
   have a:=Int.mul_le_mul (show 4*s'≤H by omega) (show r1≤H by omega) st.p1 (show 0≤H by omega)
   rw[Int.mul_assoc] at a;exact a
  omega
 have rc:=st.recon sc s'0 (show s'*(r*b%p^e)=x'+k*p^e by rw[Int.mul_comm k];omega) cop small
 have ca:(c1.natAbs:Int)=s':=by rcases rc with ⟨a,_⟩ | ⟨a,_⟩ <;> omega
 rw[ca]
 exact⟨s'0,⟨G,by rw[hS,hs'];grind⟩,⟨x',by rw[hS,hs',hx'];grind⟩⟩
theorem frac_end {k:Nat}{s b:Int}{x:Int→Int}(s0:0 < s)(b0:0 < b)(bs:b∣s)(all:∀ t:Nat,t < k→s∣b*x t)(one:∀ d:Int,d∣s→(∀ t:Nat,t < k→d∣x t)→d∣1):b=s:=by
 obtain⟨S1,hS⟩:=bs
 have d:S1∣1:=one S1 ⟨b,by rw[hS,Int.mul_comm]⟩ fun t ht=>by
  obtain⟨c,hc⟩:=all t ht
  refine⟨c,Int.eq_of_mul_eq_mul_left (show b≠0 by omega) ?_⟩
  rw[hc,hS,Int.mul_assoc]
 have S0:0 < S1:=by
  rcases Int.lt_or_le 0 S1 with z | z
  ·exact z
  ·have:=Int.mul_le_mul_of_nonneg_left z (show 0≤b by omega);omega
 have:=Int.le_of_dvd (by decide) d
 have:S1=1:=by omega
 rw[hS,this,Int.mul_one]
theorem centre {n m x:Int}(hm:0 < m)(h:m∣n-x)(hx:2*(x.natAbs:Int) < m):(if 2*(n%m)≤m then n%m else n%m-m)=x:=by
 have r0:=Int.emod_nonneg n (show m≠0 by omega)
 have r1:=Int.emod_lt_of_pos n hm
 have d:m∣n%m-x:=by have:=Int.dvd_add (Lt.vX n m) h;rwa [show n%m-n+(n-x)=n%m-x by omega] at this
 obtain⟨c,hc⟩:=d
 have cc:c=0∨c=1:=by
  rcases Int.lt_or_le c 0 with z | z
  ·have:=Int.mul_le_mul_of_nonneg_left (show c≤-1 by omega) (show 0≤m by omega);omega
  ·rcases Int.lt_or_le 1 c with y | y
   ·have:=Int.mul_le_mul_of_nonneg_left (show 2≤c by omega) (show 0≤m by omega);omega
   ·omega
 rcases cc with z | z
 ·rw[z,Int.mul_zero] at hc
  rw[if_pos (by omega)];omega
 ·rw[z,Int.mul_one] at hc
  rw[if_neg (by omega)];omega
end Mx
namespace Mx
structure Gj (m:Int)(k:Nat)(M:Int→Int→Int)(c:Nat)(A B:Int→Int→Int):Prop where
 rc:∀ i j:Nat,i < k→j < k→m∣A i j-Ld.S k fun t=>B i t*M t j
 diag:∀ i j:Nat,i < k→j < c→m∣A i j-if i=j then 1 else 0
 sup:∀ i t:Nat,i < k→t < k→c≤t→t≠i→m∣B i t
 own:∀ i:Nat,i < k→c≤i→m∣B i i-1
theorem Gj.start {m:Int}{k:Nat}{M:Int→Int→Int}:Gj m k M 0 M (fun i t=>if t=i then 1 else 0):=by
 refine⟨fun i j hi hj=>?_,fun i j _ hj=>absurd hj (Nat.not_lt_zero _),fun i t _ _ _ ne=>?_,fun i _ _=>?_⟩
 ·have:(Ld.S k fun t=>(if t=(i:Int) then 1 else 0)*M t j)=M i j:=by
   rw[Ld.zH (G:=fun t=>M t j*if t=(i:Int) then 1 else 0) fun t _=>Int.mul_comm ..,wC (F:=fun t=>M t j) hi]
  rw[this,Int.sub_self];exact Int.dvd_zero _
 ·show m∣if (t:Int)=i then 1 else 0
  rw[if_neg (by omega)];exact Int.dvd_zero _
 ·show m∣(if (i:Int)=i then 1 else 0)-1
  rw[if_pos rfl];exact Int.dvd_zero _
theorem S_cut {F:Int→Int}{c:Nat}:∀ {k:Nat},c≤k→(∀ t:Nat,c≤t→t < k→F t=0)→Ld.S k F=Ld.S c F
 | 0,h,_=>by
  have:c=0:=by omega
  rw[this]
 | k+1,h,z=>by
  rcases Nat.lt_or_ge k c with y | y
  ·have:c=k+1:=by omega
   rw[this]
  ·show Ld.S k F+F k=_
   rw[z k y (Nat.lt_succ_self k),Int.add_zero]
   exact S_cut y fun t ht hk=>z t ht (Nat.lt_succ_of_lt hk)
theorem Gj.pivot {p m:Int}(p2:2≤p)(pm:p∣m){k:Nat}{M:Int→Int→Int}{c:Nat}{A B:Int→Int→Int}(h:Gj m k M c A B)(hc:c < k)(ind:Ind p (c+1) M):¬ p∣A c c:=fun d=>by
 have key:=ind (fun t=>B c t) (fun j hj=>by
  have a:=Int.dvd_trans pm (h.rc c j hc (by omega))
  -- only rows up to c are in it
  have b:p∣(Ld.S k fun t=>B c t*M t j)-Ld.S (c+1) fun t=>B c t*M t j:=by
   have e:(Ld.S (c+1) fun t=>B c t*M t j)=Ld.S k fun t=>if t < (c+1:Nat) then B c t*M t j else 0:=by
    rw[S_cut (c:=c+1) (F:=fun t=>if t < ((c+1:Nat):Int) then B c t*M t j else 0) hc fun t h1 h2=>if_neg (by omega)]
    exact Ld.zH fun t ht=>by rw[if_pos (by omega)]
   rw[e]
   refine Lt.jV fun t ht=>?_
   by_cases q:(t:Int) < (c+1:Nat)
   ·rw[if_pos q,Int.sub_self];exact Int.dvd_zero _
   ·rw[if_neg q,Int.sub_zero]
    exact Int.dvd_mul_of_dvd_left (Int.dvd_trans pm (h.sup c t hc ht (by omega) (by omega)))
  have aj:p∣A c j:=by
   rcases Nat.lt_succ_iff_lt_or_eq.mp hj with q | q
   ·have:=Int.dvd_trans pm (h.diag c j hc q)
    rwa [if_neg (by omega),Int.sub_zero] at this
   ·rw[q];exact d
  have s:=Int.dvd_neg.mpr (Int.dvd_add (Int.dvd_sub a aj) b)
  rwa [show ∀ x y z:Int,-(x-y-x+(y-z))=z from fun x y z=>by omega] at s) c (Nat.lt_succ_self c)
 have o:=Int.dvd_trans pm (h.own c hc (Nat.le_refl c))
 have:=Int.dvd_sub key o
 rw[show B c c-(B c c-1)=1 by omega] at this
 have:=Int.le_of_dvd (by decide) this
 omega
theorem Gj.step {m:Int}{k:Nat}{M:Int→Int→Int}{c:Nat}{A B A' B':Int→Int→Int}(h:Gj m k M c A B)(hc:c < k){v:Int}(hv:m∣A c c*v-1)
  (a1:∀ j:Nat,j < k→m∣A' c j-A c j*v)(b1:∀ t:Nat,t < k→m∣B' c t-B c t*v)
  (a2:∀ i j:Nat,i < k→i≠c→j < k→m∣A' i j-(A i j-A i c*(A c j*v)))(b2:∀ i t:Nat,i < k→i≠c→t < k→m∣B' i t-(B i t-A i c*(B c t*v))):Gj m k M (c+1) A' B':=by
 refine⟨fun i j hi hj=>?_,fun i j hi hj=>?_,fun i t hi ht ct ne=>?_,fun i hi ci=>?_⟩
 ·by_cases q:i=c
  ·subst q
   have r:=h.rc i j hi hj
   have e1:m∣(Ld.S k fun t=>B' i t*M t j)-Ld.S k fun t=>v*(B i t*M t j):=Lt.jV fun t ht=>by
    have:=Int.dvd_mul_of_dvd_left (c:=M t j) (b1 t ht)
    rwa [show (B' i t-B i t*v)*M t j=B' i t*M t j-v*(B i t*M t j) by grind] at this
   rw[Ld.vL] at e1
   have r':m∣v*(A i j-Ld.S k fun t=>B i t*M t j):=Int.dvd_mul_of_dvd_right r
   have:=Int.dvd_sub (Int.dvd_add (a1 j hj) r') e1
   generalize (Ld.S k fun t=>B i t*M t j)=x at *
   generalize (Ld.S k fun t=>B' i t*M t j)=y at *
   rwa [show A' i j-A i j*v+v*(A i j-x)-(y-v*x)=A' i j-y by grind] at this
  ·have r1:=h.rc i j hi hj
   have r2:=h.rc c j hc hj
   have e1:m∣(Ld.S k fun t=>B' i t*M t j)-Ld.S k fun t=>B i t*M t j + -(A i c*v)*(B c t*M t j):=Lt.jV fun t ht=>by
    have:=Int.dvd_mul_of_dvd_left (c:=M t j) (b2 i t hi q ht)
    rwa [show (B' i t-(B i t-A i c*(B c t*v)))*M t j=B' i t*M t j-(B i t*M t j + -(A i c*v)*(B c t*M t j)) by grind] at this
   rw[Ld.wS,Ld.vL] at e1
   have r3:m∣-(A i c*v)*(A c j-Ld.S k fun t=>B c t*M t j):=Int.dvd_mul_of_dvd_right r2
   have:=Int.dvd_sub (Int.dvd_add (Int.dvd_add (a2 i j hi q hj) r1) r3) e1
   generalize (Ld.S k fun t=>B i t*M t j)=x at *
   generalize (Ld.S k fun t=>B c t*M t j)=z at *
   generalize (Ld.S k fun t=>B' i t*M t j)=y at *
   rwa [show A' i j-(A i j-A i c*(A c j*v))+(A i j-x) + -(A i c*v)*(A c j-z)-(y-(x + -(A i c*v)*z))=A' i j-y by grind] at this
 ·have hjk:j < k:=by omega
  by_cases q:i=c
  ·subst q
   rcases Nat.lt_succ_iff_lt_or_eq.mp hj with y | y
   ·have d:=h.diag i j hi y
    rw[if_neg (by omega),Int.sub_zero] at d
    rw[if_neg (by omega),Int.sub_zero]
    have d':m∣A i j*v:=Int.dvd_mul_of_dvd_left d
    have:=Int.dvd_add (a1 j hjk) d'
    rwa [show A' i j-A i j*v+A i j*v=A' i j by omega] at this
   ·subst y
    rw[if_pos rfl]
    have:=Int.dvd_add (a1 j hjk) hv
    rwa [show A' j j-A j j*v+(A j j*v-1)=A' j j-1 by omega] at this
  ·rcases Nat.lt_succ_iff_lt_or_eq.mp hj with y | y
   ·have d1:=h.diag i j hi y
    have d2:=h.diag c j hc y
    rw[if_neg (show ¬ c=j by omega),Int.sub_zero] at d2
    have d3:m∣A i c*(A c j*v):=Int.dvd_mul_of_dvd_right (Int.dvd_mul_of_dvd_left d2)
    have:=Int.dvd_sub (Int.dvd_add (a2 i j hi q hjk) d1) d3
    generalize (if i=j then (1:Int) else 0)=x at *
    rwa [show A' i j-(A i j-A i c*(A c j*v))+(A i j-x)-A i c*(A c j*v)=A' i j-x by omega] at this
   ·subst y
    rw[if_neg q,Int.sub_zero]
    have d3:m∣A i j*(A j j*v-1):=Int.dvd_mul_of_dvd_right hv
    have:=Int.dvd_sub (a2 i j hi q hjk) d3
    rwa [show A' i j-(A i j-A i j*(A j j*v))-A i j*(A j j*v-1)=A' i j by grind] at this
 ·have dc:=h.sup c t hc ht (by omega) (by omega)
  by_cases q:i=c
  ·subst q
   have d':m∣B i t*v:=Int.dvd_mul_of_dvd_left dc
   have:=Int.dvd_add (b1 t ht) d'
   rwa [show B' i t-B i t*v+B i t*v=B' i t by omega] at this
  ·have di:=h.sup i t hi ht (by omega) ne
   have d':m∣A i c*(B c t*v):=Int.dvd_mul_of_dvd_right (Int.dvd_mul_of_dvd_left dc)
   have:=Int.dvd_sub (Int.dvd_add (b2 i t hi q ht) di) d'
   rwa [show B' i t-(B i t-A i c*(B c t*v))+B i t-A i c*(B c t*v)=B' i t by omega] at this
 ·have q:i≠c:=by omega
  have o:=h.own i hi (by omega)
  have dc:=h.sup c i hc hi (by omega) (by omega)
  have d':m∣A i c*(B c i*v):=Int.dvd_mul_of_dvd_right (Int.dvd_mul_of_dvd_left dc)
  have:=Int.dvd_sub (Int.dvd_add (b2 i i hi q hi) o) d'
  rwa [show B' i i-(B i i-A i c*(B c i*v))+(B i i-1)-A i c*(B c i*v)=B' i i-1 by omega] at this
theorem Gj.end {m:Int}{k:Nat}{M A B:Int→Int→Int}(h:Gj m k M k A B):LI m k B M:=fun i j hi hj=>by
 have a:=h.rc i j hi hj
 have b:=h.diag i j hi hj
 have:=Int.dvd_sub b a
 rwa [show ∀ x y z:Int,x-y-(x-z)=z-y from fun x y z=>by omega] at this
structure Cor (p:Int)(w:Nat)(stp:Nat→Int→Int)(k:Nat)(num col:Nat→Nat)(row:Nat→Int→Int):Prop where
 colw:∀ t,t < k→col t < w
 one:∀ t,t < k→p∣row t (col t)-1
 zero:∀ s t,s < t→t < k→p∣row t (col s)
 span:∀ t,t < k→∃ l:Int→Int,∀ c:Nat,c < w→p∣row t c-Ld.S k fun s=>l s*stp (num s.toNat) c
 ind:∀ c,c≤k→Ind p c (fun s t=>stp (num s.toNat) (col t.toNat))
theorem Cor.start (p:Int)(w:Nat)(stp:Nat→Int→Int)(num col:Nat→Nat)(row:Nat→Int→Int):Cor p w stp 0 num col row :=
 ⟨fun t h=>absurd h (Nat.not_lt_zero _),fun t h=>absurd h (Nat.not_lt_zero _),fun s t _ h=>absurd h (Nat.not_lt_zero _),fun t h=>absurd h (Nat.not_lt_zero _),fun c h=>(Nat.le_zero.mp h)▸Ind.zero _ _⟩
structure Clr (p:Int)(w:Nat)(stp:Nat→Int→Int)(k:Nat)(num col:Nat→Nat)(v:Int→Int)(t:Nat)(left:Int→Int):Prop where
 eq:∃ x:Int→Int,∀ c:Nat,c < w→p∣left c-(v c-Ld.S k fun s=>x s*stp (num s.toNat) c)
 zero:∀ s,s < t→p∣left (col s)
theorem Clr.start {p:Int}{w:Nat}{stp:Nat→Int→Int}{k:Nat}{num col:Nat→Nat}{v left:Int→Int}(h:∀ c:Nat,c < w→p∣left c-v c):Clr p w stp k num col v 0 left :=
 ⟨⟨fun _=>0,fun c hc=>by
  have e:(Ld.S k fun s=>(0:Int)*stp (num s.toNat) c)=0:=by
   rw[Ld.zH (G:=fun _=>0) fun s _=>Int.zero_mul (stp (num (s:Int).toNat) c)];exact Ld.jA k
  show p∣left c-(v c-Ld.S k fun s=>(0:Int)*stp (num s.toNat) c)
  rw[e,Int.sub_zero];exact h c hc⟩,fun s h=>absurd h (Nat.not_lt_zero _)⟩
theorem Clr.step {p:Int}{w:Nat}{stp:Nat→Int→Int}{k:Nat}{num col:Nat→Nat}{row:Nat→Int→Int}(cr:Cor p w stp k num col row){v left zAm:Int→Int}{t:Nat}(ht:t < k)(h:Clr p w stp k num col v t left)(e:∀ c:Nat,c < w→p∣zAm c-(left c-left (col t)*row t c)):Clr p w stp k num col v (t+1) zAm:=by
 obtain⟨x,hx⟩:=h.eq
 obtain⟨l,hl⟩:=cr.span t ht
 refine⟨⟨fun s=>x s+left (col t)*l s,fun c hc=>?_⟩,fun s hs=>?_⟩
 ·have a:=hx c hc
  have b:p∣left (col t)*(row t c-Ld.S k fun s=>l s*stp (num s.toNat) c):=Int.dvd_mul_of_dvd_right (hl c hc)
  have d:(Ld.S k fun s=>(x s+left (col t)*l s)*stp (num s.toNat) c)=(Ld.S k fun s=>x s*stp (num s.toNat) c)+left (col t)*Ld.S k fun s=>l s*stp (num s.toNat) c:=by
   rw[← Ld.vL,← Ld.wS];exact Ld.zH fun s _=>by grind
  rw[d]
  have:=Int.dvd_sub (Int.dvd_add (e c hc) a) b
  generalize (Ld.S k fun s=>x s*stp (num s.toNat) c)=y at *
  generalize (Ld.S k fun s=>l s*stp (num s.toNat) c)=z at *
  rwa [show zAm c-(left c-left (col t)*row t c)+(left c-(v c-y))-left (col t)*(row t c-z)=zAm c-(v c-(y+left (col t)*z)) by grind] at this
 ·have ec:=e (col s) (cr.colw s (by omega))
  rcases Nat.lt_succ_iff_lt_or_eq.mp hs with q | q
  ·have z1:=h.zero s q
   have z2:p∣left (col t)*row t (col s):=Int.dvd_mul_of_dvd_right (cr.zero s t q ht)
   have:=Int.dvd_sub (Int.dvd_add ec z1) z2
   rwa [show ∀ a b c:Int,a-(b-c)+b-c=a from fun a b c=>by omega] at this
  ·subst q
   have z2:p∣left (col s)*(row s (col s)-1):=Int.dvd_mul_of_dvd_right (cr.one s ht)
   have:=Int.dvd_sub ec z2
   rwa [show zAm (col s)-(left (col s)-left (col s)*row s (col s))-left (col s)*(row s (col s)-1)=zAm (col s) by grind] at this
theorem Cor.congr {p:Int}{w:Nat}{stp:Nat→Int→Int}{k:Nat}{num col num' col':Nat→Nat}{row row':Nat→Int→Int}(h:Cor p w stp k num col row)(e1:∀ t,t < k→num' t=num t)(e2:∀ t,t < k→col' t=col t)(e3:∀ t,t < k→row' t=row t):Cor p w stp k num' col' row':=by
 refine⟨fun t ht=>by rw[e2 t ht];exact h.colw t ht,fun t ht=>by rw[e3 t ht,e2 t ht];exact h.one t ht,fun s t st ht=>by rw[e3 t ht,e2 s (by omega)];exact h.zero s t st ht,fun t ht=>?_,fun c hc y hy s hs=>?_⟩
 ·obtain⟨l,hl⟩:=h.span t ht
  refine⟨l,fun c hc=>?_⟩
  rw[e3 t ht,Ld.zH (G:=fun s=>l s*stp (num s.toNat) c) fun s hs=>by rw[Int.toNat_natCast,e1 s hs]]
  exact hl c hc
 ·refine h.ind c hc y (fun t ht=>?_) s hs
  have:=hy t ht
  dsimp only at this ⊢
  rw[Ld.zH (G:=fun s=>y s*stp (num s.toNat) (col (t:Int).toNat)) fun s hs=>by rw[Int.toNat_natCast,Int.toNat_natCast,e1 s (by omega),e2 t (by omega)]] at this
  exact this
theorem Cor.snoc {p:Int}(hp:Pt.Prm p){w:Nat}{stp:Nat→Int→Int}{k:Nat}{num col:Nat→Nat}{row:Nat→Int→Int}(h:Cor p w stp k num col row){left:Int→Int}(cl:Clr p w stp k num col (stp (num k)) k left)(cw:col k < w)(nz:¬ p∣left (col k)){u:Int}(hu:p∣left (col k)*u-1)(er:∀ c:Nat,c < w→p∣row k c-left c*u):Cor p w stp (k+1) num col row:=by
 obtain⟨x,hx⟩:=cl.eq
 refine⟨fun t ht=>?_,fun t ht=>?_,fun s t st ht=>?_,fun t ht=>?_,fun c hc=>?_⟩
 ·rcases Nat.lt_succ_iff_lt_or_eq.mp ht with q | q
  ·exact h.colw t q
  ·rw[q];exact cw
 ·rcases Nat.lt_succ_iff_lt_or_eq.mp ht with q | q
  ·exact h.one t q
  ·rw[q]
   have:=Int.dvd_add (er (col k) cw) hu
   rwa [show ∀ a b:Int,a-b+(b-1)=a-1 from fun a b=>by omega] at this
 ·rcases Nat.lt_succ_iff_lt_or_eq.mp ht with q | q
  ·exact h.zero s t st q
  ·subst q
   have z:p∣left (col s)*u:=Int.dvd_mul_of_dvd_left (cl.zero s st)
   have:=Int.dvd_add (er (col s) (h.colw s st)) z
   rwa [show ∀ a b:Int,a-b+b=a from fun a b=>by omega] at this
 ·rcases Nat.lt_succ_iff_lt_or_eq.mp ht with q | q
  ·obtain⟨l,hl⟩:=h.span t q
   refine⟨fun s=>if s=(k:Int) then 0 else l s,fun c hc=>?_⟩
   have e:(Ld.S (k+1) fun s=>(if s=(k:Int) then 0 else l s)*stp (num s.toNat) c)=Ld.S k fun s=>l s*stp (num s.toNat) c:=by
    show (Ld.S k fun s=>(if s=(k:Int) then 0 else l s)*stp (num s.toNat) c)+(if (k:Int)=k then 0 else l k)*stp (num (k:Int).toNat) c=_
    rw[if_pos rfl,Int.zero_mul,Int.add_zero]
    exact Ld.zH fun s hs=>by rw[if_neg (by omega)]
   rw[e];exact hl c hc
  ·subst q
   refine⟨fun s=>if s=(t:Int) then u else -(u*x s),fun c hc=>?_⟩
   have e:(Ld.S (t+1) fun s=>(if s=(t:Int) then u else -(u*x s))*stp (num s.toNat) c)=u*(stp (num t) c-Ld.S t fun s=>x s*stp (num s.toNat) c):=by
    show (Ld.S t fun s=>(if s=(t:Int) then u else -(u*x s))*stp (num s.toNat) c)+(if (t:Int)=t then u else -(u*x t))*stp (num (t:Int).toNat) c=_
    rw[if_pos rfl,Int.toNat_natCast]
    have:(Ld.S t fun s=>(if s=(t:Int) then u else -(u*x s))*stp (num s.toNat) c)=-u*Ld.S t fun s=>x s*stp (num s.toNat) c:=by
     rw[← Ld.vL]
     exact Ld.zH fun s hs=>by rw[if_neg (by omega)];grind
    rw[this];grind
   rw[e]
   have a:p∣u*(left c-(stp (num t) c-Ld.S t fun s=>x s*stp (num s.toNat) c)):=Int.dvd_mul_of_dvd_right (hx c hc)
   have:=Int.dvd_add (er c hc) a
   generalize (Ld.S t fun s=>x s*stp (num s.toNat) c)=y at *
   rwa [show row t c-left c*u+u*(left c-(stp (num t) c-y))=row t c-u*(stp (num t) c-y) by grind] at this
 ·rcases Nat.lt_or_ge c (k+1) with q | q
  ·exact h.ind c (by omega)
  ·have ec:c=k+1:=by omega
   subst ec
   refine Ind.snoc hp (h.ind k (Nat.le_refl k)) (x:=x) (fun t ht=>?_) fun d=>nz ?_
   ·have a:=hx (col t) (h.colw t ht)
    have b:=cl.zero t ht
    have:=Int.dvd_sub b a
    rw[show ∀ a b:Int,a-(a-b)=b from fun a b=>by omega] at this
    rw[Int.toNat_natCast,Int.toNat_natCast]
    exact this
   ·have a:=hx (col k) cw
    rw[Int.toNat_natCast] at d
    exact (Lt.jI a).mpr d
end Mx
namespace Mx
def Hg (w:Nat)(stp:Nat→Int→Int)(k:Nat)(num:Nat→Nat)(v:Int→Int):Prop:=∃ (t:Int→Int)(s:Int),s≠0∧∀ c:Nat,c < w→s*v c=Ld.S k fun i=>t i*stp (num i.toNat) c
theorem S_bd {F:Int→Int}{B:Int}:∀ {k:Nat},(∀ i:Nat,i < k→((F i).natAbs:Int)≤B)→((Ld.S k F).natAbs:Int)≤k*B
 | 0,_=>by show ((0:Int).natAbs:Int)≤_;simp
 | k+1,h=>by
  have a:=S_bd (k:=k) fun i hi=>h i (Nat.lt_succ_of_lt hi)
  have b:=h k (Nat.lt_succ_self k)
  show ((Ld.S k F+F k).natAbs:Int)≤((k+1:Nat):Int)*B
  rw[Int.natCast_succ,Int.add_mul,Int.one_mul]
  omega
section
variable {p:Int}{w k:Nat}{stp:Nat→Int→Int}{num col:Nat→Nat}{row:Nat→Int→Int}
theorem Hg.zero:Hg w stp k num fun _=>0:=⟨fun _=>0,1,by decide,fun c _=>by
 have:(Ld.S k fun i=>(fun _=>(0:Int)) i*stp (num i.toNat) c)=Ld.S k fun _=>0:=Ld.zH fun i _=>Int.zero_mul _
 rw[this,Ld.jA];rfl⟩
theorem Hg.add {u v:Int→Int}(h:Hg w stp k num u)(g:Hg w stp k num v)(a b:Int):Hg w stp k num fun c=>a*u c+b*v c:=by
 obtain⟨t,s,s0,ht⟩:=h
 obtain⟨t',s',s0',ht'⟩:=g
 refine⟨fun i=>a*s'*t i+b*s*t' i,s*s',fun z=>(Int.mul_eq_zero.mp z).elim s0 s0',fun c hc=>?_⟩
 have e:(Ld.S k fun i=>(a*s'*t i+b*s*t' i)*stp (num i.toNat) c)=a*s'*(Ld.S k fun i=>t i*stp (num i.toNat) c)+b*s*Ld.S k fun i=>t' i*stp (num i.toNat) c:=by
  rw[← Ld.vL,← Ld.vL,← Ld.wS];exact Ld.zH fun i _=>by grind
 rw[e,← ht c hc,← ht' c hc];grind
theorem Hg.all (hp:Pt.Prm p)(cr:Cor p w stp k num col row){v:Int→Int}(h:Hg w stp k num v)(z:∀ t:Nat,t < k→v (col t)=0)(c:Nat)(hc:c < w):v c=0:=by
 obtain⟨t,s,s0,ht⟩:=h
 have ci:=(cr.ind k (Nat.le_refl k)).ci
 have all:=ci.inj hp.1 (y:=t) fun j hj=>by
  have:=ht (col j) (cr.colw j hj)
  rw[z j hj,Int.mul_zero] at this
  show (Ld.S k fun i=>stp (num i.toNat) (col (j:Int).toNat)*t i)=0
  rw[Int.toNat_natCast,Ld.zH (G:=fun i=>t i*stp (num i.toNat) (col j)) fun i _=>Int.mul_comm ..]
  exact this.symm
 have e:=ht c hc
 rw[Ld.zH (G:=fun _=>0) fun i hi=>by rw[all i hi,Int.zero_mul],Ld.jA] at e
 exact (Int.mul_eq_zero.mp e).resolve_left s0
theorem Hg.weigh {v:Int→Int}(h:Hg w stp k num v){W:Int→Int}(z:∀ i:Nat,i < k→(Ld.S w fun c=>stp (num i) c*W c)=0):(Ld.S w fun c=>v c*W c)=0:=by
 obtain⟨t,s,s0,ht⟩:=h
 have e1:s*(Ld.S w fun c=>v c*W c)=Ld.S k fun i=>t i*Ld.S w fun c=>stp (num i.toNat) c*W c:=by
  rw[← Ld.vL]
  have a:(Ld.S w fun c=>s*(v c*W c))=Ld.S w fun c=>Ld.S k fun i=>t i*(stp (num i.toNat) c*W c):=Ld.zH fun c hc=>by
   rw[← Int.mul_assoc,ht c hc,← Ld.zDr]
   exact Ld.zH fun i _=>Int.mul_assoc ..
  rw[a,Ld.jH]
  exact Ld.zH fun i _=>by rw[Ld.vL]
 have e2:(Ld.S k fun i=>t i*Ld.S w fun c=>stp (num i.toNat) c*W c)=0:=by
  rw[Ld.zH (G:=fun _=>0) fun i hi=>by rw[Int.toNat_natCast,z i hi,Int.mul_zero],Ld.jA]
 rw[e2] at e1
 exact (Int.mul_eq_zero.mp e1).resolve_left s0
end
end Mx
namespace Mx
def La (k:Nat)(R:Int→Int→Int)(v:Int→Int):Prop:=∃ x:Int→Int,∀ i:Nat,i < k→(Ld.S k fun t=>R i t*x t)=v i
section
variable {k:Nat}{R:Int→Int→Int}
theorem La.lin {u v:Int→Int}(h:La k R u)(g:La k R v)(a b:Int):La k R fun i=>a*u i+b*v i:=by
 obtain⟨x,hx⟩:=h
 obtain⟨y,hy⟩:=g
 refine⟨fun t=>a*x t+b*y t,fun i hi=>?_⟩
 have:(Ld.S k fun t=>R i t*(a*x t+b*y t))=a*(Ld.S k fun t=>R i t*x t)+b*Ld.S k fun t=>R i t*y t:=by
  rw[← Ld.vL,← Ld.vL,← Ld.wS];exact Ld.zH fun t _=>by grind
 rw[this,hx i hi,hy i hi]
theorem La.congr {u v:Int→Int}(h:La k R u)(e:∀ i:Nat,i < k→u i=v i):La k R v:=by
 obtain⟨x,hx⟩:=h
 exact⟨x,fun i hi=>by rw[hx i hi,e i hi]⟩
end
def pr (n:Nat→Nat):Nat→Nat
 | 0=>1
 | j+1=>pr n j*n j
def pt (n:Nat→Nat):Nat→Nat→Nat→Nat
 | 0,_,_=>0
 | k+1,N,i=>if i=k then N/pr n k else pt n k (N%pr n k) i
theorem pr_pos {n:Nat→Nat}(h:∀ i,1≤n i):∀ k,1≤pr n k
 | 0=>Nat.le_refl 1
 | k+1=>by have:=Nat.mul_le_mul (pr_pos h k) (h k);exact this
theorem pt_lt {n:Nat→Nat}(h:∀ i,1≤n i):∀ {k N:Nat},N < pr n k→∀ i,i < k→pt n k N i < n i
 | 0,_,_,i,hi=>absurd hi (Nat.not_lt_zero _)
 | k+1,N,hN,i,hi=>by
  have p:=pr_pos h k
  show (if i=k then N/pr n k else pt n k (N%pr n k) i) < n i
  by_cases c:i=k
  ·rw[if_pos c,c]
   exact Nat.div_lt_of_lt_mul hN
  ·rw[if_neg c]
   exact pt_lt h (Nat.mod_lt _ p) i (by omega)
theorem pt_inj {n:Nat→Nat}(h:∀ i,1≤n i):∀ {k N M:Nat},N < pr n k→M < pr n k→(∀ i,i < k→pt n k N i=pt n k M i)→N=M
 | 0,N,M,hN,hM,_=>by have a:N < 1:=hN;have b:M < 1:=hM;omega
 | k+1,N,M,hN,hM,e=>by
  have p:=pr_pos h k
  have ek:=e k (Nat.lt_succ_self k)
  have ek':N/pr n k=M/pr n k:=by
   have:(if k=k then N/pr n k else pt n k (N%pr n k) k)=if k=k then M/pr n k else pt n k (M%pr n k) k:=ek
   rwa [if_pos rfl,if_pos rfl] at this
  have r:=pt_inj h (k:=k) (Nat.mod_lt N p) (Nat.mod_lt M p) fun i hi=>by
   have:(if i=k then N/pr n k else pt n k (N%pr n k) i)=if i=k then M/pr n k else pt n k (M%pr n k) i:=e i (Nat.lt_succ_of_lt hi)
   rwa [if_neg (by omega),if_neg (by omega)] at this
  rw[← Nat.div_add_mod N (pr n k),← Nat.div_add_mod M (pr n k),ek',r]
theorem last_ne {f g:Nat→Nat}:∀ {k:Nat},(∃ i,i < k∧f i≠g i)→∃ j,j < k∧f j≠g j∧∀ i,j < i→i < k→f i=g i
 | 0,⟨i,hi,_⟩=>absurd hi (Nat.not_lt_zero _)
 | k+1,⟨i,hi,ne⟩=>by
  by_cases c:f k=g k
  ·have:i≠k:=fun z=>ne (z▸c)
   obtain⟨j,hj,nj,all⟩:=last_ne (k:=k) ⟨i,by omega,ne⟩
   refine⟨j,by omega,nj,fun i ji ik=>?_⟩
   rcases Nat.lt_succ_iff_lt_or_eq.mp ik with q | q
   ·exact all i ji q
   ·rw[q];exact c
  ·exact⟨k,Nat.lt_succ_self k,c,fun i a b=>by omega⟩
theorem all_in {p:Int}(hp:Pt.Prm p){k C:Nat}(hC:1≤C){R:Int→Int→Int}(ci:CI p k R)(hR:∀ i t:Nat,i < k→t < k→(R i t).natAbs≤C) :
  ∃ D:Nat,1≤D∧D≤(2*(k*C)+1)^k∧∀ v:Int→Int,La k R fun i=>D*v i:=by
 have ex:∀ j:Nat,∃ n:Nat,1≤n∧(j < k→(∃ x:Int→Int,∀ i:Nat,j≤i→i < k→(Ld.S k fun t=>R i t*x t)=if i=j then (n:Int) else 0)∧∀ m:Nat,m < n→¬ (0 < m∧∃ x:Int→Int,∀ i:Nat,j≤i→i < k→(Ld.S k fun t=>R i t*x t)=if i=j then (m:Int) else 0)):=fun j=>by
  by_cases hj:j < k
  ·obtain⟨x,s,s0,_,hx,_⟩:=sol_ex hp hC (goal:=fun i=>if i=(j:Int) then 1 else 0) ci hR (fun i hi=>by
    show (if (i:Int)=j then (1:Int) else 0).natAbs≤C
    by_cases c:(i:Int)=j
    ·rw[if_pos c];exact hC
    ·rw[if_neg c];exact Nat.zero_le _)
   obtain⟨n,⟨n0,hn⟩,mn⟩:=Pg.least (P:=fun m:Nat=>0 < m∧∃ x:Int→Int,∀ i:Nat,j≤i→i < k→(Ld.S k fun t=>R i t*x t)=if i=j then (m:Int) else 0) (n:=s.toNat) ⟨by omega,x,fun i _ hi=>by
    have:=hx i hi
    rw[this]
    show s*(if (i:Int)=j then (1:Int) else 0)=_
    by_cases c:i=j
    ·rw[if_pos c,if_pos (by omega)];omega
    ·rw[if_neg c,if_neg (by omega),Int.mul_zero]⟩
   exact⟨n,n0,fun _=>⟨hn,mn⟩⟩
  ·exact⟨1,Nat.le_refl 1,fun h=>absurd h hj⟩
 obtain⟨n,hn⟩:=Classical.axiomOfChoice ex
 have n1:∀ j,1≤n j:=fun j=>(hn j).1
 have kill:∀ j:Nat,j≤k→∀ v:Int→Int,(∀ i:Nat,j≤i→i < k→v i=0)→La k R fun i=>(pr n j:Int)*v i:=by
  intro j
  induction j with
  | zero =>
   intro _ v hv
   refine⟨fun _=>0,fun i hi=>?_⟩
   have:(Ld.S k fun t=>R i t*(fun _=>(0:Int)) t)=Ld.S k fun _=>0:=Ld.zH fun t _=>Int.mul_zero _
   rw[this,Ld.jA]
   show 0=(pr n 0:Int)*v i
   rw[hv i (Nat.zero_le i) hi,Int.mul_zero]
  | succ j ih =>
   intro hj v hv
   obtain⟨⟨x,hx⟩,_⟩:=(hn j).2 (by omega)
   have a:=ih (by omega) (fun i=>n j*v i-v j*Ld.S k fun t=>R i t*x t) fun i ji ik=>by
    show (n j:Int)*v i-v j*(Ld.S k fun t=>R i t*x t)=0
    rw[hx i ji ik]
    by_cases c:i=j
    ·rw[if_pos c,c,Int.mul_comm];omega
    ·rw[if_neg c,hv i (by omega) ik,Int.mul_zero,Int.mul_zero];rfl
   have b:La k R fun i=>Ld.S k fun t=>R i t*x t:=⟨x,fun i _=>rfl⟩
   refine (a.lin b 1 (pr n j*v j)).congr fun i _=>?_
   show 1*((pr n j:Int)*((n j:Int)*v i-v j*Ld.S k fun t=>R i t*x t))+pr n j*v j*(Ld.S k fun t=>R i t*x t)=((pr n j*n j:Nat):Int)*v i
   rw[Int.natCast_mul];grind
 have all:∀ v:Int→Int,La k R fun i=>(pr n k:Int)*v i:=fun v=>kill k (Nat.le_refl k) v fun i a b=>by omega
 have p1:=pr_pos n1 k
 refine⟨pr n k,p1,?_,all⟩
 refine Nat.le_of_not_lt fun big=>?_
 -- each point has a like one in the box
 have box:∀ N:Nat,∃ u:Int→Int,(∀ i:Nat,i < k→(u i).natAbs≤k*C)∧La k R fun i=>(pt n k N i.toNat:Int)-u i:=fun N=>by
  obtain⟨x,hx⟩:=all fun i=>(pt n k N i.toNat:Int)
  refine⟨fun i=>(pt n k N i.toNat:Int)-Ld.S k fun t=>R i t*(x t/pr n k),fun i hi=>?_,⟨fun t=>x t/pr n k,fun i hi=>by dsimp only;omega⟩⟩
  have e:(pr n k:Int)*((pt n k N (i:Int).toNat:Int)-Ld.S k fun t=>R i t*(x t/pr n k))=Ld.S k fun t=>R i t*(x t%pr n k):=by
   have h1:=hx i hi
   dsimp only at h1
   rw[Int.mul_sub,← h1,← Ld.vL]
   have:(Ld.S k fun t=>R i t*(x t%pr n k))=(Ld.S k fun t=>R i t*x t) + -1*(Ld.S k fun t=>pr n k*(R i t*(x t/pr n k))):=by
    rw[← Ld.vL,← Ld.wS]
    refine Ld.zH fun t _=>?_
    rw[Int.emod_def];grind
   rw[this];omega
  have b:=Sg.S_bd (m:=k) (F:=fun t=>R i t*(x t%pr n k)) (B:=C*pr n k) fun t ht=>by
   show (R i t*(x t%pr n k)).natAbs≤_
   rw[Int.natAbs_mul]
   refine Nat.mul_le_mul (hR i t hi ht) ?_
   have:=Int.emod_nonneg (x t) (show (pr n k:Int)≠0 by omega)
   have:=Int.emod_lt_of_pos (x t) (show 0 < (pr n k:Int) by omega)
   omega
  rw[← e,Int.natAbs_mul,Int.natAbs_natCast,← Nat.mul_assoc,Nat.mul_comm] at b
  exact Nat.le_of_mul_le_mul_right b p1
 obtain⟨u,hu⟩:=Classical.axiomOfChoice box
 have eb:∀ N i:Nat,i < k→(u N i+(k*C:Nat)).toNat < 2*(k*C)+1:=fun N i hi=>by
  have:=(hu N).1 i hi
  omega
 obtain⟨N,M,NM,Mk,e⟩:=Pg.pigeon (fun N=>Sg.enc (2*(k*C)+1) k fun i=>(u N i+(k*C:Nat)).toNat) big fun N _=>Sg.zGm (eb N)
 have same:=Sg.enc_inj (eb N) (eb M) e
 obtain⟨x,hx⟩:La k R fun i=>(pt n k N i.toNat:Int)-pt n k M i.toNat:=((hu N).2.lin (hu M).2 1 (-1)).congr fun i hi=>by
  have s:=same i hi
  have a:=(hu N).1 i hi
  have b:=(hu M).1 i hi
  omega
 have dif:∃ i,i < k∧pt n k N i≠pt n k M i:=by
  refine Classical.byContradiction fun no=>?_
  have:=pt_inj n1 (k:=k) (N:=N) (M:=M) (by omega) Mk fun i hi=>Classical.byContradiction fun z=>no ⟨i,hi,z⟩
  omega
 obtain⟨j,jk,nj,later⟩:=last_ne dif
 have lN:=pt_lt n1 (k:=k) (N:=N) (by omega) j jk
 have lM:=pt_lt n1 (k:=k) (N:=M) Mk j jk
 have mn:=((hn j).2 jk).2
 have hx':∀ i:Nat,i < k→(Ld.S k fun t=>R i t*x t)=(pt n k N i:Int)-pt n k M i:=fun i hi=>by
  have:=hx i hi
  dsimp only at this
  rwa [Int.toNat_natCast] at this
 rcases Nat.lt_or_gt_of_ne nj with lt | gt
 ·refine mn (pt n k M j-pt n k N j) (by omega) ⟨by omega,fun t=>-1*x t,fun i ji ik=>?_⟩
  have:(Ld.S k fun t=>R i t*(-1*x t))=-1*Ld.S k fun t=>R i t*x t:=by
   rw[← Ld.vL];exact Ld.zH fun t _=>by grind
  rw[this,hx' i ik]
  by_cases c:i=j
  ·rw[if_pos c,c];omega
  ·rw[if_neg c,later i (by omega) ik];omega
 ·refine mn (pt n k N j-pt n k M j) (by omega) ⟨by omega,x,fun i ji ik=>?_⟩
  rw[hx' i ik]
  by_cases c:i=j
  ·rw[if_pos c,c];omega
  ·rw[if_neg c,later i (by omega) ik];omega
end Mx
namespace Pq
def bl (a:Nat):Nat→Nat
 | 0=>a
 | k+1=>bl a k*bl (a+2^k) k
theorem bl_dvd:∀ {k a d:Nat},a≤d→d < a+2^k→d∣bl a k
 | 0,a,d,h1,h2=>by
  have:d=a:=by rw[Nat.pow_zero] at h2;omega
  rw[this];exact Nat.dvd_refl _
 | k+1,a,d,h1,h2=>by
  rw[Nat.pow_succ] at h2
  show d∣bl a k*bl (a+2^k) k
  rcases Nat.lt_or_ge d (a+2^k) with c | c
  ·exact Nat.dvd_mul_right_of_dvd (bl_dvd h1 c) _
  ·exact Nat.dvd_mul_left_of_dvd (bl_dvd c (by omega)) _
def S:List Nat:=[1000000007,1000000009,1000000021,1000000033,1000000087,1000000093,1000000097,1000000103,1000000123,1000000181,1000000207,1000000223,1000000241,1000000271,1000000289,1000000297,1000000321,1000000349,1000000363,1000000403,1000000409,1000000411,1000000427,1000000433,1000000439,1000000447,1000000453,1000000459,1000000483,1000000513,1000000531,1000000579,1000000607,1000000613,1000000637,1000000663,1000000711,1000000753,1000000787,1000000801,1000000829,1000000861,1000000871,1000000891,1000000901,1000000919,1000000931,1000000933,1000000993,1000001011,1000001021,1000001053,1000001087,1000001099,1000001137,1000001161,1000001203,1000001213,1000001237,1000001263,1000001269,1000001273,1000001279,1000001311,1000001329,1000001333,1000001351,1000001371,1000001393,1000001413,1000001447,1000001449,1000001491,1000001501,1000001531,1000001537,1000001539,1000001581,1000001617,1000001621,1000001633,1000001647,1000001663,1000001677,1000001699,1000001759,1000001773,1000001789,1000001791,1000001801,1000001803,1000001819]
def pd:List Nat→Nat
 | []=>1
 | p::l=>p*pd l
theorem pd_mem:∀ {l:List Nat}{p:Nat},p∈l→p∣pd l
 | q::l,p,h=>by
  show p∣q*pd l
  rcases List.mem_cons.mp h with e | e
  ·rw[e];exact Nat.dvd_mul_right ..
  ·exact Nat.dvd_mul_left_of_dvd (pd_mem e) _
theorem cop:(Nat.gcd (pd S) (bl 2 15) == 1)=true:=by decide +kernel
theorem rng:(S.all fun p=>decide (1000000007≤p∧p < 1000002100))=true:=by decide +kernel
theorem nod:S.Nodup:=by decide +kernel
theorem S_prm {p:Nat}(h:p∈S):Pt.Prm (p:Int)∧1000000007≤p∧p < 1000002100:=by
 have r:=of_decide_eq_true (List.all_eq_true.mp rng p h)
 refine⟨⟨by omega,fun d d2 dp dd=>?_⟩,r⟩
 have g:Nat.gcd (pd S) (bl 2 15)=1:=eq_of_beq cop
 have no:∀ e:Nat,2≤e→e < 2+2^15→¬ e∣p:=fun e e2 el ep=>by
  have a:=Nat.dvd_gcd (Nat.dvd_trans ep (pd_mem h)) (bl_dvd e2 el)
  rw[g] at a
  have:=Nat.le_of_dvd Nat.one_pos a
  omega
 obtain⟨e,rfl⟩:=Int.eq_ofNat_of_zero_le (show 0≤d by omega)
 have ep:e∣p:=Int.natCast_dvd_natCast.mp dd
 obtain⟨f,hf⟩:=ep
 have f2:2≤f:=by
  rcases Nat.lt_or_ge f 2 with c | c
  ·have:f=0∨f=1:=by omega
   rcases this with z | z
   ·rw[z] at hf;omega
   ·rw[z,Nat.mul_one] at hf;omega
  ·exact c
 rcases Nat.lt_or_ge e (2+2^15) with c | c
 ·exact no e (by omega) c ⟨f,hf⟩
 ·rcases Nat.lt_or_ge f (2+2^15) with c' | c'
  ·exact no f f2 c' ⟨e,by rw[hf,Nat.mul_comm]⟩
  ·have:=Nat.mul_le_mul c c'
   omega
end Pq
namespace Mx
def Hm (q:Int)(w:Nat)(stp:Nat→Int→Int)(k:Nat)(num:Nat→Nat)(v:Int→Int):Prop:=∃ x:Int→Int,∀ c:Nat,c < w→q∣v c-Ld.S k fun s=>x s*stp (num s.toNat) c
structure Fr (q:Int)(w n:Nat)(stp:Nat→Int→Int)(k:Nat)(num col:Nat→Nat):Prop where
 colw:∀ t,t < k→col t < w
 numn:∀ t,t < k→num t < n
 ind:Ind q k (fun s t=>stp (num s.toNat) (col t.toNat))
 all:∀ j,j < n→Hm q w stp k num (stp j)
def Good (q:Int)(w n:Nat)(stp:Nat→Int→Int)(goal:Int→Int):Prop :=
 ∀ k num col,Fr q w n stp k num col→(∀ j,j < n→Hg w stp k num (stp j))∧(Hm q w stp k num goal→Hg w stp k num goal)
theorem stz {q:Int}(hq:2≤q){w m k:Nat}(km:k < m){r f:Nat→Int→Int}(h:∀ i,i < m→∃ x:Int→Int,∀ c:Nat,c < w→q∣r i c-Ld.S k fun s=>x s*f s.toNat c) :
  ∃ y:Int→Int,(∃ i:Nat,i < m∧¬ q∣y i)∧∀ c:Nat,c < w→q∣Ld.S m fun i=>y i*r i.toNat c:=by
 have h':∀ i,∃ x:Int→Int,i < m→∀ c:Nat,c < w→q∣r i c-Ld.S k fun s=>x s*f s.toNat c:=fun i=>by
  by_cases c:i < m
  ·obtain⟨x,hx⟩:=h i c;exact⟨x,fun _=>hx⟩
  ·exact⟨fun _=>0,fun z=>absurd z c⟩
 obtain⟨X,hX⟩:=Classical.axiomOfChoice h'
 obtain⟨Q,hQ⟩:∃ Q:Nat,Q=q.toNat:=⟨_,rfl⟩
 have qQ:q=Q:=by omega
 have Q2:2≤Q:=by omega
 have eb:∀ N s:Nat,s < k→((Ld.S m fun i=>(Sg.dig Q N i.toNat:Int)*X i.toNat s)%q).toNat < Q:=fun N s _=>by
  have a:=Int.emod_nonneg (Ld.S m fun i=>(Sg.dig Q N i.toNat:Int)*X i.toNat s) (show q≠0 by omega)
  have b:=Int.emod_lt_of_pos (Ld.S m fun i=>(Sg.dig Q N i.toNat:Int)*X i.toNat s) (show 0 < q by omega)
  omega
 obtain⟨N,M,NM,Mm,e⟩:=Pg.pigeon (fun N=>Sg.enc Q k fun s=>((Ld.S m fun i=>(Sg.dig Q N i.toNat:Int)*X i.toNat s)%q).toNat) (Nat.pow_lt_pow_right Q2 km) fun N _=>Sg.zGm (eb N)
 have same:=Sg.enc_inj (eb N) (eb M) e
 refine⟨fun i=>(Sg.dig Q N i.toNat:Int)-Sg.dig Q M i.toNat,?_,fun c hc=>?_⟩
 ·refine Classical.byContradiction fun no=>?_
  have:N=M:=Sg.dig_inj (b:=Q) (by omega) (by omega) Mm fun j hj=>by
   have d:q∣(Sg.dig Q N j:Int)-Sg.dig Q M j:=Classical.byContradiction fun z=>no ⟨j,hj,by dsimp only;rw[Int.toNat_natCast];exact z⟩
   have a:Sg.dig Q N j < Q:=Nat.mod_lt _ (by omega)
   have b:Sg.dig Q M j < Q:=Nat.mod_lt _ (by omega)
   by_cases z:(Sg.dig Q N j:Int)-Sg.dig Q M j=0
   ·omega
   ·have:=Int.le_of_dvd (show (0:Int) < ((Sg.dig Q N j:Int)-Sg.dig Q M j).natAbs by omega) (Int.dvd_natAbs.mpr d)
    omega
  omega
 ·have e1:q∣(Ld.S m fun i=>((Sg.dig Q N i.toNat:Int)-Sg.dig Q M i.toNat)*r i.toNat c)-Ld.S m fun i=>((Sg.dig Q N i.toNat:Int)-Sg.dig Q M i.toNat)*Ld.S k fun s=>X i.toNat s*f s.toNat c:=Lt.jV fun i hi=>by
   rw[Int.toNat_natCast,← Int.mul_sub]
   exact Int.dvd_mul_of_dvd_right (hX i hi c hc)
  refine (Lt.jI e1).mpr ?_
  have e2:(Ld.S m fun i=>((Sg.dig Q N i.toNat:Int)-Sg.dig Q M i.toNat)*Ld.S k fun s=>X i.toNat s*f s.toNat c)=Ld.S k fun s=>(Ld.S m fun i=>((Sg.dig Q N i.toNat:Int)-Sg.dig Q M i.toNat)*X i.toNat s)*f s.toNat c:=by
   rw[Ld.zH (G:=fun i=>Ld.S k fun s=>((Sg.dig Q N i.toNat:Int)-Sg.dig Q M i.toNat)*X i.toNat s*f s.toNat c) fun i _=>by
    rw[← Ld.vL];exact Ld.zH fun s _=>by grind]
   rw[Ld.jH]
   exact Ld.zH fun s _=>by rw[Ld.zDr]
  rw[e2]
  refine S_dvd fun s hs=>Int.dvd_mul_of_dvd_left ?_
  have z:=same s hs
  have e3:(Ld.S m fun i=>((Sg.dig Q N i.toNat:Int)-Sg.dig Q M i.toNat)*X i.toNat s)=(Ld.S m fun i=>(Sg.dig Q N i.toNat:Int)*X i.toNat s) + -1*Ld.S m fun i=>(Sg.dig Q M i.toNat:Int)*X i.toNat s:=by
   rw[← Ld.vL,← Ld.wS];exact Ld.zH fun i _=>by grind
  rw[e3]
  have a:=Int.emod_nonneg (Ld.S m fun i=>(Sg.dig Q N i.toNat:Int)*X i.toNat s) (show q≠0 by omega)
  have b:=Int.emod_nonneg (Ld.S m fun i=>(Sg.dig Q M i.toNat:Int)*X i.toNat s) (show q≠0 by omega)
  generalize (Ld.S m fun i=>(Sg.dig Q N i.toNat:Int)*X i.toNat s)=A at *
  generalize (Ld.S m fun i=>(Sg.dig Q M i.toNat:Int)*X i.toNat s)=B at *
  have ab:A%q=B%q:=by omega
  rw[show A + -1*B=A-B by omega]
  exact Int.dvd_of_emod_eq_zero (by rw[Int.sub_emod,ab,Int.sub_self,Int.zero_emod])
theorem both {p:Int}(hp:Pt.Prm p){k C:Nat}(hC:1≤C){M:Int→Int→Int}(ind:Ind p k M)(hM:∀ i t:Nat,i < k→t < k→(M i t).natAbs≤C) :
  ∃ D:Nat,1≤D∧D≤(2*(k*C)+1)^k∧(∀ v:Int→Int,La k (fun s t=>M t s) fun i=>D*v i)∧∀ v:Int→Int,La k M fun i=>D*v i:=by
 obtain⟨D,D1,Db,al⟩:=all_in hp hC ind.ci fun i t hi ht=>hM t i ht hi
 refine⟨D,D1,Db,al,fun v=>?_⟩
 -- the weights that single one row out
 have ex:∀ j:Nat,∃ x:Int→Int,∀ t:Nat,t < k→(Ld.S k fun i=>M i t*x i)=D*if t=j then 1 else 0:=fun j=>by
  obtain⟨x,hx⟩:=al fun t=>if t=(j:Int) then 1 else 0
  refine⟨x,fun t ht=>?_⟩
  have:=hx t ht
  dsimp only at this
  rw[this]
  by_cases c:t=j
  ·rw[if_pos c,if_pos (by omega)]
  ·rw[if_neg c,if_neg (by omega)]
 obtain⟨X,hX⟩:=Classical.axiomOfChoice ex
 have key:∀ l i:Nat,l < k→i < k→(Ld.S k fun j=>M l j*X j.toNat i)=D*if i=l then 1 else 0:=fun l i hl hi=>by
  have z:=ind.ci.inj hp.1 (y:=fun i=>(Ld.S k fun j=>M l j*X j.toNat i)-D*if i=(l:Int) then 1 else 0) (fun t ht=>by
   show (Ld.S k fun i=>M i t*((Ld.S k fun j=>M l j*X j.toNat i)-D*if i=(l:Int) then 1 else 0))=0
   have a:(Ld.S k fun i=>M i t*((Ld.S k fun j=>M l j*X j.toNat i)-D*if i=(l:Int) then 1 else 0))=(Ld.S k fun i=>Ld.S k fun j=>M l j*(M i t*X j.toNat i)) + -D*Ld.S k fun i=>M i t*if i=(l:Int) then 1 else 0:=by
    rw[← Ld.vL,← Ld.wS]
    refine Ld.zH fun i _=>?_
    have:(Ld.S k fun j=>M l j*(M i t*X j.toNat i))=M i t*Ld.S k fun j=>M l j*X j.toNat i:=by rw[← Ld.vL];exact Ld.zH fun j _=>by grind
    rw[this];grind
   rw[a,wC hl,Ld.jH]
   have b:(Ld.S k fun j=>Ld.S k fun i=>M l j*(M i t*X j.toNat i))=Ld.S k fun j=>M l j*D*if j=(t:Int) then 1 else 0:=Ld.zH fun j hj=>by
    rw[Ld.vL,Int.toNat_natCast,hX j t ht]
    by_cases c:t=j
    ·rw[if_pos c,if_pos (by omega)];grind
    ·rw[if_neg c,if_neg (by omega)];grind
   rw[b,wC (F:=fun j=>M l j*D) ht];grind) i hi
  by_cases c:i=l
  ·rw[if_pos c];rw[if_pos (by omega)] at z;omega
  ·rw[if_neg c];rw[if_neg (by omega)] at z;omega
 refine⟨fun j=>Ld.S k fun i=>X j.toNat i*v i,fun l hl=>?_⟩
 have a:(Ld.S k fun j=>M l j*Ld.S k fun i=>X j.toNat i*v i)=Ld.S k fun i=>Ld.S k fun j=>M l j*X j.toNat i*v i:=by
  rw[Ld.jH]
  exact Ld.zH fun j _=>by rw[← Ld.vL];exact Ld.zH fun i _=>by grind
 rw[a]
 have b:(Ld.S k fun i=>Ld.S k fun j=>M l j*X j.toNat i*v i)=Ld.S k fun i=>D*v i*if i=(l:Int) then 1 else 0:=Ld.zH fun i hi=>by
  rw[Ld.zDr,key l i hl hi]
  by_cases c:i=l
  ·rw[if_pos c,if_pos (by omega)];grind
  ·rw[if_neg c,if_neg (by omega)];grind
 rw[b,wC (F:=fun i=>D*v i) hl]
end Mx
namespace Mx
theorem La.ind {q:Int}(hq:Pt.Prm q){k:Nat}{M:Int→Int→Int}{D:Int}(h:∀ v:Int→Int,La k M fun i=>D*v i)(nd:¬ q∣D):Ind q k M:=fun y hy s hs=>by
 obtain⟨x,hx⟩:=h fun i=>if i=(s:Int) then 1 else 0
 have e:(Ld.S k fun t=>x t*Ld.S k fun i=>y i*M i t)=D*y s:=by
  have a:(Ld.S k fun t=>x t*Ld.S k fun i=>y i*M i t)=Ld.S k fun i=>y i*Ld.S k fun t=>M i t*x t:=by
   rw[Ld.zH (G:=fun t=>Ld.S k fun i=>y i*(M i t*x t)) fun t _=>by rw[← Ld.vL];exact Ld.zH fun i _=>by grind]
   rw[Ld.jH]
   exact Ld.zH fun i _=>by rw[Ld.vL]
  rw[a,Ld.zH (G:=fun i=>D*y i*if i=(s:Int) then 1 else 0) fun i hi=>by rw[hx i hi];grind]
  exact wC (F:=fun i=>D*y i) hs
 have d:q∣D*y s:=by rw[← e];exact S_dvd fun t ht=>Int.dvd_mul_of_dvd_right (hy t ht)
 exact w9 hq d nd
section
variable {w n:Nat}{stp:Nat→Int→Int}
theorem Fr.le_n {q:Int}(hq:Pt.Prm q){k:Nat}{num col:Nat→Nat}(F:Fr q w n stp k num col):k≤n∧k≤w:=by
 constructor
 ·refine Nat.le_of_not_lt fun lt=>?_
  obtain⟨y,⟨i,hi,ny⟩,hy⟩:=stz hq.1 (w:=w) lt (r:=fun i=>stp (num i)) (f:=stp) fun i hi=>⟨fun s=>if s=(num i:Int) then 1 else 0,fun c hc=>by
   rw[Ld.zH (G:=fun s=>stp s.toNat c*if s=(num i:Int) then 1 else 0) fun s _=>by grind,wC (F:=fun s=>stp s.toNat c) (F.numn i hi)]
   rw[Int.toNat_natCast,Int.sub_self];exact Int.dvd_zero _⟩
  exact ny (F.ind y (fun t ht=>by dsimp only;rw[Int.toNat_natCast];exact hy (col t) (F.colw t ht)) i hi)
 ·refine Nat.le_of_not_lt fun lt=>?_
  obtain⟨y,⟨i,hi,ny⟩,hy⟩:=stz hq.1 (w:=w) lt (r:=fun i=>stp (num i)) (f:=fun s c=>if (s:Int)=c then 1 else 0) fun i hi=>⟨fun s=>stp (num i) s,fun c hc=>by
   rw[Ld.zH (G:=fun s=>stp (num i) s*if s=(c:Int) then 1 else 0) fun s _=>by rw[Int.toNat_natCast],wC (F:=fun s=>stp (num i) s) hc]
   rw[Int.sub_self];exact Int.dvd_zero _⟩
  exact ny (F.ind y (fun t ht=>by dsimp only;rw[Int.toNat_natCast];exact hy (col t) (F.colw t ht)) i hi)
theorem few {q:Int}(hq:Pt.Prm q){k k':Nat}{num col num' col':Nat→Nat}{D:Int}(cw:∀ t,t < k→col t < w)(nn:∀ t,t < k→num t < n)(h:∀ v:Int→Int,La k (fun s t=>stp (num s.toNat) (col t.toNat)) fun i=>D*v i)(nd:¬ q∣D)(F:Fr q w n stp k' num' col'):k≤k':=by
 refine Nat.le_of_not_lt fun lt=>?_
 obtain⟨y,⟨i,hi,ny⟩,hy⟩:=stz hq.1 (w:=w) lt (r:=fun i=>stp (num i)) (f:=fun s=>stp (num' s)) fun i hi=>F.all (num i) (nn i hi)
 exact ny (La.ind hq h nd y (fun t ht=>by dsimp only;rw[Int.toNat_natCast];exact hy (col t) (cw t ht)) i hi)
theorem few1 {q:Int}(hq:Pt.Prm q){k k':Nat}{num col num' col':Nat→Nat}{D:Int}(cw:∀ t,t < k→col t < w)(nn:∀ t,t < k→num t < n)(h:∀ v:Int→Int,La k (fun s t=>stp (num s.toNat) (col t.toNat)) fun i=>D*v i)(F:Fr q w n stp k' num' col')(kk:k'≤k)
  {v:Int→Int}(hv:Hm q w stp k' num' v){s:Int}{t:Int→Int}(ht:∀ i:Nat,i < k→(Ld.S k fun j=>stp (num j.toNat) (col i)*t j)=s*v (col i)){c:Nat}(hc:c < w):q∣D*(s*v c-Ld.S k fun i=>t i*stp (num i.toNat) c):=by
 refine Classical.byContradiction fun nd=>?_
 have nD:¬ q∣D:=fun z=>nd (Int.dvd_mul_of_dvd_left z)
 have nG:¬ q∣s*v c-Ld.S k fun i=>t i*stp (num i.toNat) c:=fun z=>nd (Int.dvd_mul_of_dvd_right z)
 have ind:=La.ind hq h nD
 obtain⟨y,⟨i,hi,ny⟩,hy⟩:=stz hq.1 (w:=w) (show k' < k+1 by omega) (r:=fun i=>if i < k then stp (num i) else v) (f:=fun s=>stp (num' s)) fun i hi=>by
  by_cases z:i < k
  ·rw[if_pos z];exact F.all (num i) (nn i z)
  ·rw[if_neg z];exact hv
 have hy':∀ c:Nat,c < w→q∣(Ld.S k fun i=>y i*stp (num i.toNat) c)+y k*v c:=fun c hc=>by
  have a:=hy c hc
  have e:(Ld.S (k+1) fun i=>y i*(if i.toNat < k then stp (num i.toNat) else v) c)=(Ld.S k fun i=>y i*stp (num i.toNat) c)+y k*v c:=by
   show (Ld.S k fun i=>y i*(if i.toNat < k then stp (num i.toNat) else v) c)+y k*(if (k:Int).toNat < k then stp (num (k:Int).toNat) else v) c=_
   rw[if_neg (by omega),Ld.zH (G:=fun i=>y i*stp (num i.toNat) c) fun i hi=>by rw[if_pos (by omega)]]
  rwa [e] at a
 have sp:∀ c:Nat,(Ld.S k fun i=>(s*y i+y k*t i)*stp (num i.toNat) c)=s*(Ld.S k fun i=>y i*stp (num i.toNat) c)+y k*Ld.S k fun i=>t i*stp (num i.toNat) c:=fun c=>by
  rw[← Ld.vL,← Ld.vL,← Ld.wS];exact Ld.zH fun i _=>by grind
 have near:=ind (fun i=>s*y i+y k*t i) fun j hj=>by
  have a:=Int.dvd_mul_of_dvd_right (a:=q) (b:=s) (hy' (col j) (cw j hj))
  have b:=ht j hj
  dsimp only
  rw[Int.toNat_natCast,sp]
  rw[Ld.zH (G:=fun i=>t i*stp (num i.toNat) (col j)) fun i _=>Int.mul_comm ..] at b
  rw[b]
  rwa [show s*((Ld.S k fun i=>y i*stp (num i.toNat) (col j))+y k*v (col j))=s*(Ld.S k fun i=>y i*stp (num i.toNat) (col j))+y k*(s*v (col j)) by grind] at a
 have yk:q∣y k:=by
  have a:=Int.dvd_mul_of_dvd_right (a:=q) (b:=s) (hy' c hc)
  have b:q∣Ld.S k fun i=>(s*y i+y k*t i)*stp (num i.toNat) c:=S_dvd fun i hi=>Int.dvd_mul_of_dvd_left (near i hi)
  rw[sp] at b
  have d:=Int.dvd_sub a b
  generalize (Ld.S k fun i=>y i*stp (num i.toNat) c)=Y at *
  generalize (Ld.S k fun i=>t i*stp (num i.toNat) c)=T at *
  rw[show s*(Y+y k*v c)-(s*Y+y k*T)=(s*v c-T)*y k by grind] at d
  exact w9 hq d nG
 have yi:=ind y fun j hj=>by
  have a:=hy' (col j) (cw j hj)
  have b:q∣y k*v (col j):=Int.dvd_mul_of_dvd_left yk
  have:=Int.dvd_sub a b
  rw[show ∀ a b:Int,a+b-b=a from fun a b=>by omega] at this
  dsimp only
  rw[Int.toNat_natCast];exact this
 rcases Nat.lt_succ_iff_lt_or_eq.mp hi with z | z
 ·exact ny (yi i z)
 ·rw[z] at ny;exact ny yk
theorem res {p:Int}(hp:Pt.Prm p){k C:Nat}(hC:1≤C){num col:Nat→Nat}(F:Fr p w n stp k num col)(hs:∀ (j:Nat)(c:Nat),j < n→c < w→(stp j c).natAbs≤C){v:Int→Int}(hv:∀ c:Nat,c < w→(v c).natAbs≤C)(no:¬ Hg w stp k num v) :
  ∃ (t:Int→Int)(s:Int)(c:Nat),c < w∧(∀ i:Nat,i < k→(Ld.S k fun j=>stp (num j.toNat) (col i)*t j)=s*v (col i))∧(s*v c-Ld.S k fun i=>t i*stp (num i.toNat) c)≠0∧((s*v c-Ld.S k fun i=>t i*stp (num i.toNat) c).natAbs:Int)≤(k+1:Nat)*(Sg.bnd k C*C):=by
 obtain⟨t,s,s0,ps,ht,tb,sb,_⟩:=sol_ex hp hC (goal:=fun i=>v (col i.toNat)) F.ind.ci (fun i j hi hj=>by
  show (stp (num (j:Int).toNat) (col (i:Int).toNat)).natAbs≤C
  rw[Int.toNat_natCast,Int.toNat_natCast];exact hs _ (col i) (F.numn j hj) (F.colw i hi)) (fun i hi=>by
  show (v (col (i:Int).toNat)).natAbs≤C
  rw[Int.toNat_natCast];exact hv (col i) (F.colw i hi))
 have ht':∀ i:Nat,i < k→(Ld.S k fun j=>stp (num j.toNat) (col i)*t j)=s*v (col i):=fun i hi=>by
  have:=ht i hi
  rwa [Int.toNat_natCast] at this
 have ex:∃ c:Nat,c < w∧(s*v c-Ld.S k fun i=>t i*stp (num i.toNat) c)≠0:=Classical.byContradiction fun z=>no ⟨t,s,by omega,fun c hc=>by
  have:(s*v c-Ld.S k fun i=>t i*stp (num i.toNat) c)=0:=Classical.byContradiction fun y=>z ⟨c,hc,y⟩
  omega⟩
 obtain⟨c,hc,nz⟩:=ex
 refine⟨t,s,c,hc,ht',nz,?_⟩
 have T0:(0:Int)≤Sg.bnd k C:=by omega
 have a:((s*v c).natAbs:Int)≤Sg.bnd k C*C:=by
  rw[Int.natAbs_mul,Int.natCast_mul]
  exact Int.mul_le_mul (by omega) (by have:=hv c hc;omega) (by omega) T0
 have b:((Ld.S k fun i=>t i*stp (num i.toNat) c).natAbs:Int)≤k*(Sg.bnd k C*C):=S_bd fun i hi=>by
  rw[Int.natAbs_mul,Int.natCast_mul,Int.toNat_natCast]
  exact Int.mul_le_mul (by have:=tb i hi;omega) (by have:=hs _ c (F.numn i hi) hc;omega) (by omega) T0
 rw[Int.natCast_succ,Int.add_mul,Int.one_mul]
 omega
theorem mx_ex {α:Type}(f:α→Nat):∀ {l:List α},l≠[]→∃ a,a∈l∧∀ b,b∈l→f b≤f a
 | [],h=>absurd rfl h
 | [a],_=>⟨a,List.mem_cons_self,fun b hb=>by rw[List.mem_singleton.mp hb];exact Nat.le_refl _⟩
 | a::b::l,_=>by
  obtain⟨x,hx,mx⟩:=mx_ex f (l:=b::l) (by simp)
  rcases Nat.lt_or_ge (f a) (f x) with c | c
  ·exact⟨x,List.mem_cons_of_mem _ hx,fun y hy=>(List.mem_cons.mp hy).elim (fun e=>by rw[e];omega) (mx y)⟩
  ·exact⟨a,List.mem_cons_self,fun y hy=>(List.mem_cons.mp hy).elim (fun e=>by rw[e];omega) fun h=>by have:=mx y h;omega⟩
theorem pd_dvd:∀ {l:List Nat}{x:Int},l.Nodup→(∀ q,q∈l→Pt.Prm (q:Int)∧(q:Int)∣x)→(Pq.pd l:Int)∣x
 | [],x,_,_=>Int.one_dvd _
 | q::l,x,nd,h=>by
  obtain⟨hq,x',hx⟩:=h q List.mem_cons_self
  rw[List.nodup_cons] at nd
  have r:=pd_dvd (l:=l) (x:=x') nd.2 fun p hp=>by
   have a:=h p (List.mem_cons_of_mem _ hp)
   refine⟨a.1,?_⟩
   rw[hx] at a
   refine w9 a.1 a.2 fun d=>?_
   have:p≠q:=fun e=>nd.1 (e▸hp)
   have le:=Int.le_of_dvd (by have:=hq.1;omega) d
   exact hq.2 p a.1.1 (by omega) d
  show ((q*Pq.pd l:Nat):Int)∣x
  rw[Int.natCast_mul,hx]
  exact Int.mul_dvd_mul (Int.dvd_refl _) r
theorem good_ex {S:List Nat}(ne:S≠[])(prm:∀ q,q∈S→Pt.Prm (q:Int))(nd:S.Nodup){goal:Int→Int}{C Cg:Nat}(hC:1≤C)(CC:C≤Cg)(hs:∀ (j:Nat)(c:Nat),j < n→c < w→(stp j c).natAbs≤C)(hg:∀ c:Nat,c < w→(goal c).natAbs≤Cg)
  (big:∀ k,k≤n→k≤w→(2*(k*C)+1)^k*((k+1)*(Sg.bnd k Cg*Cg)) < Pq.pd S):∃ q,q∈S∧Good q w n stp goal:=by
 refine Classical.byContradiction fun no=>?_
 have ex:∀ q:Nat,∃ F:Nat×(Nat→Nat)×(Nat→Nat),q∈S→Fr q w n stp F.1 F.2.1 F.2.2∧¬ ((∀ j,j < n→Hg w stp F.1 F.2.1 (stp j))∧(Hm q w stp F.1 F.2.1 goal→Hg w stp F.1 F.2.1 goal)):=fun q=>by
  by_cases h:q∈S
  ·refine Classical.byContradiction fun z=>no ⟨q,h,fun k num col F=>Classical.byContradiction fun y=>z ⟨(k,num,col),fun _=>⟨F,y⟩⟩⟩
  ·exact⟨(0,id,id),fun z=>absurd z h⟩
 obtain⟨F,hF⟩:=Classical.axiomOfChoice ex
 obtain⟨p,pS,mx⟩:=mx_ex (fun q=>(F q).1) ne
 have hsg:∀ (j:Nat)(c:Nat),j < n→c < w→(stp j c).natAbs≤Cg:=fun j c a b=>Nat.le_trans (hs j c a b) CC
 have over:∀ (k:Nat)(D:Nat)(G:Int),k≤n→k≤w→1≤D→D≤(2*(k*C)+1)^k→G≠0→(G.natAbs:Int)≤(k+1:Nat)*(Sg.bnd k Cg*Cg)→¬ ∀ q,q∈S→(q:Int)∣D*G:=fun k D G kn kw D1 Db G0 Gb all=>by
  have d:=pd_dvd nd fun q hq=>⟨prm q hq,all q hq⟩
  have d':=Int.natAbs_dvd_natAbs.mpr d
  rw[Int.natAbs_mul,Int.natAbs_natCast,Int.natAbs_natCast] at d'
  have G1:0 < G.natAbs:=by omega
  have le:=Nat.le_of_dvd (Nat.mul_pos D1 G1) d'
  have b:=big k kn kw
  have Gb':G.natAbs≤(k+1)*(Sg.bnd k Cg*Cg):=by
   have:(G.natAbs:Int)≤(((k+1)*(Sg.bnd k Cg*Cg):Nat):Int):=by rw[Int.natCast_mul,Int.natCast_mul];exact Gb
   omega
  have:=Nat.mul_le_mul Db Gb'
  omega
 have dl:∀ q:Nat,q∈S→∃ D:Nat,1≤D∧D≤(2*((F q).1*C)+1)^(F q).1∧∀ v:Int→Int,La (F q).1 (fun s t=>stp ((F q).2.1 s.toNat) ((F q).2.2 t.toNat)) fun i=>D*v i:=fun q hq=>by
  have fr:=(hF q hq).1
  obtain⟨D,D1,Db,_,al⟩:=both (prm q hq) hC fr.ind fun i t hi ht=>by
   rw[Int.toNat_natCast,Int.toNat_natCast];exact hs _ _ (fr.numn i hi) (fr.colw t ht)
  exact⟨D,D1,Db,al⟩
 -- all steps hang on as many rows as there are at most
 have steps:∀ q:Nat,q∈S→(F q).1=(F p).1→∀ j,j < n→Hg w stp (F q).1 (F q).2.1 (stp j):=fun q hq ek j hj=>Classical.byContradiction fun z=>by
  have fr:=(hF q hq).1
  obtain⟨D,D1,Db,al⟩:=dl q hq
  obtain⟨t,s,c,hc,ht,nz,Gb⟩:=res (prm q hq) (by omega) fr hsg (hsg j · hj) z
  have le:=fr.le_n (prm q hq)
  exact over _ D _ le.1 le.2 D1 Db nz Gb fun q' hq'=>few1 (prm q' hq') fr.colw fr.numn al (hF q' hq').1 (by have:=mx q' hq';omega) ((hF q' hq').1.all j hj) ht hc
 have fr:=(hF p pS).1
 obtain⟨D,D1,Db,al⟩:=dl p pS
 have st:=steps p pS rfl
 have gl:Hm p w stp (F p).1 (F p).2.1 goal∧¬ Hg w stp (F p).1 (F p).2.1 goal:=by
  have b:=(hF p pS).2
  refine Classical.byContradiction fun z=>b ⟨st,fun h=>Classical.byContradiction fun y=>z ⟨h,y⟩⟩
 obtain⟨t,s,c,hc,ht,nz,Gb⟩:=res (prm p pS) (by omega) fr hsg hg gl.2
 have le:=fr.le_n (prm p pS)
 refine over _ D _ le.1 le.2 D1 Db nz Gb fun q hq=>?_
 have kk:=mx q hq
 by_cases e:(F q).1=(F p).1
 ·have hm:Hm q w stp (F q).1 (F q).2.1 goal:=by
   refine Classical.byContradiction fun z=>(hF q hq).2 ⟨steps q hq e,fun h=>absurd h z⟩
  exact few1 (prm q hq) fr.colw fr.numn al (hF q hq).1 kk hm ht hc
 ·refine Classical.byContradiction fun z=>?_
  have:=few (prm q hq) fr.colw fr.numn al (fun d=>z (Int.dvd_mul_of_dvd_left d)) (hF q hq).1
  omega
end
end Mx
namespace Lt
theorem Tri.at {m:Int}{K:Nat}:∀ {c:Nat}{ls:List (List Int)},Tri m K c ls→∀ {i:Nat}{l:List Int},ls[i]?=some l→l.length=K∧(∀ j,j < c+i→g l j=0)∧1≤g l (c+i)∧g l (c+i)∣m
 | c,l::ls,h,0,l',e=>by cases e;exact h.1
 | c,l::ls,h,i+1,l',e=>by
  have:=Tri.at h.2 (i:=i) (l:=l') e
  rw[show c+(i+1)=c+1+i by omega];exact this
theorem How.at {m:Int}{k:Nat}:∀ {c:Nat}{ls:List (List Int)},How m k c ls→∀ {i:Nat}{l:List Int},ls[i]?=some l→∀ a:Int→Int,(∀ (j:Nat)(l':List Int),i < j→ls[j]?=some l'→m∣dt k l' a)→m∣m/g l (c+i)*dt k l a
 | c,l::ls,h,0,l',e,a,kl=>by
  cases e
  refine h.1 a fun y hy=>?_
  obtain⟨j,hj⟩:=List.getElem?_of_mem hy
  exact kl (j+1) y (Nat.succ_pos j) hj
 | c,l::ls,h,i+1,l',e,a,kl=>by
  have:=How.at h.2 (i:=i) (l:=l') e a fun j y ij hy=>kl (j+1) y (Nat.succ_lt_succ ij) hy
  rw[show c+(i+1)=c+1+i by omega];exact this
structure Bar (m:Int)(k col:Nat)(ls:List (List Int))(j:Nat)(a:Int→Int):Prop where
 lo:∀ i:Nat,i < j→a i=0
 hi:∀ i:Nat,col < i→a i=0
 at_:∀ l,ls[col]?=some l→a col=m/g l col
 kl:∀ (i:Nat)(l:List Int),j≤i→ls[i]?=some l→m∣dt k l a
theorem S_only {F:Int→Int}{c:Nat}:∀ {k:Nat},c < k→(∀ i:Nat,i < k→i≠c→F i=0)→Ld.S k F=F c
 | 0,h,_=>absurd h (Nat.not_lt_zero _)
 | k+1,h,z=>by
  show Ld.S k F+F k=F c
  rcases Nat.lt_succ_iff_lt_or_eq.mp h with y | y
  ·rw[S_only y fun i hi ne=>z i (Nat.lt_succ_of_lt hi) ne,z k (Nat.lt_succ_self k) (by omega),Int.add_zero]
  ·have:Ld.S k F=0:=by
    rw[Ld.zH (G:=fun _=>0) fun i hi=>z i (Nat.lt_succ_of_lt hi) (by omega)];exact Ld.jA k
   rw[this,Int.zero_add,y]
theorem bar0 {m:Int}{K k col:Nat}{ls:List (List Int)}(t:Tri m K 0 ls)(hc:col < k){l:List Int}(el:ls[col]?=some l):Bar m k col ls col (fun x=>if x=col then m/g l col else 0):=by
 refine⟨fun i hi=>if_neg (by omega),fun i hi=>if_neg (by omega),fun l' e=>?_,fun i l' hi e=>?_⟩
 ·rw[el] at e;cases e;exact if_pos rfl
 ·have ti:=t.at e
  rw[Nat.zero_add] at ti
  have e1:dt k l' (fun x=>if x=(col:Int) then m/g l col else 0)=g l' col*(m/g l col):=by
   unfold dt
   rw[S_only (c:=col) hc fun j _ ne=>by
    show g l' (j:Int).toNat*(if (j:Int)=col then m/g l col else 0)=0
    rw[if_neg (by omega),Int.mul_zero]]
   show g l' (col:Int).toNat*(if (col:Int)=col then m/g l col else 0)=_
   rw[if_pos rfl,Int.toNat_natCast]
  rw[e1]
  rcases Nat.lt_or_eq_of_le hi with y | y
  ·rw[ti.2.1 col y,Int.zero_mul];exact Int.dvd_zero _
  ·subst y
   rw[el] at e;cases e
   rw[Int.mul_ediv_cancel' ti.2.2.2];exact Int.dvd_refl m
theorem dt_congr {k:Nat}{v:List Int}{a b:Int→Int}(h:∀ i:Nat,i < k→g v i≠0→a i=b i):dt k v a=dt k v b:=by
 unfold dt
 refine Ld.zH fun i hi=>?_
 rw[Int.toNat_natCast]
 by_cases z:g v i=0
 ·rw[z,Int.zero_mul,Int.zero_mul]
 ·rw[h i hi z]
theorem S_put {F:Int→Int}{c:Nat}{x:Int}:∀ {k:Nat},c < k→F c=0→(Ld.S k fun i=>if i=c then x else F i)=Ld.S k F+x
 | 0,h,_=>absurd h (Nat.not_lt_zero _)
 | k+1,h,z=>by
  show (Ld.S k fun i=>if i=c then x else F i)+(if (k:Int)=c then x else F k)=Ld.S k F+F k+x
  rcases Nat.lt_succ_iff_lt_or_eq.mp h with y | y
  ·rw[S_put y z,if_neg (by omega)];omega
  ·subst y
   rw[if_pos rfl,z,Ld.zH (G:=F) fun i hi=>if_neg (by omega)];omega
theorem bar1 {m:Int}(hm:1≤m){K k col p:Nat}{ls:List (List Int)}(t:Tri m K 0 ls)(w:How m k 0 ls)(hc:col < k)(pc:p < col){a:Int→Int}(b:Bar m k col ls (p+1) a){l:List Int}(el:ls[p]?=some l) :
  g l p∣dt k l a∧Bar m k col ls p (fun x=>if x=p then (-(dt k l a/g l p))%(m/g l p) else a x):=by
 have tp:=t.at el
 have hp:=w.at el a fun j l' pj e=>b.kl j l' pj e
 rw[Nat.zero_add] at tp hp
 obtain⟨ll,lz,l1,r,hr⟩:=tp
 have mr:m/g l p=r:=by rw[hr];exact Int.mul_ediv_cancel_left _ (by omega)
 have r1:1≤r:=by
  rcases Int.lt_or_le r 1 with z | z
  ·have:=Int.mul_le_mul_of_nonneg_left (show r≤0 by omega) (show 0≤g l p by omega);omega
  ·exact z
 have dv:g l p∣dt k l a:=by
  rw[mr] at hp
  obtain⟨z,hz⟩:=hp
  refine⟨z,Int.eq_of_mul_eq_mul_left (show r≠0 by omega) ?_⟩
  rw[hz,hr];grind
 refine⟨dv,fun i hi=>?_,fun i hi=>?_,fun l' e=>?_,fun i l' hi e=>?_⟩
 ·show (if (i:Int)=p then _ else a i)=0
  rw[if_neg (by omega)];exact b.lo i (by omega)
 ·show (if (i:Int)=p then _ else a i)=0
  rw[if_neg (by omega)];exact b.hi i hi
 ·show (if (col:Int)=p then _ else a col)=_
  rw[if_neg (by omega)];exact b.at_ l' e
 ·rcases Nat.lt_or_eq_of_le hi with y | y
  ·have ti:=t.at e
   rw[Nat.zero_add] at ti
   rw[dt_congr (b:=a) fun j hj nz=>?_]
   ·exact b.kl i l' y e
   ·by_cases z:(j:Int)=p
    ·exact absurd (ti.2.1 j (by omega)) nz
    ·exact if_neg z
  ·subst y
   rw[el] at e;cases e
   obtain⟨x,hx⟩:=dv
   have xq:dt k l a/g l p=x:=by rw[hx];exact Int.mul_ediv_cancel_left _ (by omega)
   rw[mr,xq]
   have e1:dt k l (fun y=>if y=(p:Int) then (-x)%r else a y)=dt k l a+g l p*((-x)%r):=by
    have:(fun y:Int=>g l y.toNat*(if y=(p:Int) then (-x)%r else a y))=fun y=>if y=(p:Int) then g l p*((-x)%r) else g l y.toNat*a y:=funext fun y=>by
     by_cases c:y=(p:Int)
     ·rw[if_pos c,if_pos c,c,Int.toNat_natCast]
     ·rw[if_neg c,if_neg c]
    unfold dt
    rw[this,S_put (F:=fun y=>g l y.toNat*a y) (c:=p) (by omega) (by rw[b.lo p (by omega),Int.mul_zero])]
   rw[e1,hx]
   obtain⟨z,hz⟩:=vX (-x) r
   have:(-x)%r=r*z-x:=by omega
   refine⟨z,?_⟩
   rw[this]
   conv=>rhs;rw[hr]
   grind
theorem Bar.not {m:Int}(hm:1≤m){K k col:Nat}{ls:List (List Int)}(t:Tri m K 0 ls)(hc:col < k){a:Int→Int}(b:Bar m k col ls 0 a){l:List Int}(el:ls[col]?=some l){left:List Int}(z:∀ i,i < col→g left i=0)(nd:¬ g l col∣g left col):¬ m∣dt k left a:=fun d=>by
 have tp:=t.at el
 rw[Nat.zero_add] at tp
 obtain⟨_,_,l1,r,hr⟩:=tp
 have mr:m/g l col=r:=by rw[hr];exact Int.mul_ediv_cancel_left _ (by omega)
 have e1:dt k left a=g left col*r:=by
  unfold dt
  rw[S_only (c:=col) hc fun j _ ne=>?_,Int.toNat_natCast,b.at_ l el,mr]
  rw[Int.toNat_natCast]
  rcases Nat.lt_or_gt_of_ne ne with y | y
  ·rw[z j y,Int.zero_mul]
  ·rw[b.hi j y,Int.mul_zero]
 rw[e1] at d
 obtain⟨y,hy⟩:=d
 have r0:r≠0:=fun q=>by rw[q,Int.mul_zero] at hr;omega
 refine nd ⟨y,Int.eq_of_mul_eq_mul_left r0 ?_⟩
 rw[Int.mul_comm r,hy]
 conv=>lhs;rw[hr]
 grind
def Rec (m:Int)(k r:Nat)(row:Nat→Int→Int)(G:Int→Int)(v:List Int):Prop:=∀ i:Nat,i < k→m∣g v i-(G i+Ld.S r fun j=>g v (k+j.toNat)*row j.toNat i)
theorem Rec.mix {m:Int}{K k r:Nat}{row:Nat→Int→Int}{G1 G2:Int→Int}{u v:List Int}(lu:u.length=K)(lv:v.length=K)(h1:Rec m k r row G1 u)(h2:Rec m k r row G2 v)(a b:Int):Rec m k r row (fun i=>a*G1 i+b*G2 i) (mix u a v b m):=fun i hi=>by
 obtain⟨x,hx⟩:=h1 i hi
 obtain⟨y,hy⟩:=h2 i hi
 obtain⟨z,hz⟩:=vX (g u i*a+g v i*b) m
 have e1:m∣(Ld.S r fun j=>g (Lt.mix u a v b m) (k+j.toNat)*row j.toNat i)-(Ld.S r fun j=>a*(g u (k+j.toNat)*row j.toNat i)+b*(g v (k+j.toNat)*row j.toNat i)):=jV fun j _=>by
  rw[zAg lu lv]
  obtain⟨q,hq⟩:=vX (g u (k+(j:Int).toNat)*a+g v (k+(j:Int).toNat)*b) m
  refine⟨q*row (j:Int).toNat i,?_⟩
  have:(g u (k+(j:Int).toNat)*a+g v (k+(j:Int).toNat)*b)%m=m*q+(g u (k+(j:Int).toNat)*a+g v (k+(j:Int).toNat)*b):=by omega
  rw[this];grind
 rw[Ld.wS,Ld.vL,Ld.vL] at e1
 obtain⟨q,hq⟩:=e1
 rw[zAg lu lv]
 generalize (Ld.S r fun j=>g (Lt.mix u a v b m) (k+j.toNat)*row j.toNat i)=s at *
 generalize (Ld.S r fun j=>g u (k+j.toNat)*row j.toNat i)=s1 at *
 generalize (Ld.S r fun j=>g v (k+j.toNat)*row j.toNat i)=s2 at *
 refine⟨z+a*x+b*y-q,?_⟩
 grind
end Lt
namespace Rx
open Lt (g)
theorem g_out {l:List Int}{i:Nat}(h:l.length≤i):g l i=0:=by unfold g;rw[List.getD_eq_getElem?_getD,List.getElem?_eq_none h];rfl
theorem wH {l:List Int}{i:Nat}{v:Int}(h:l[i]?=some v):g l i=v:=by unfold g;rw[List.getD_eq_getElem?_getD,h];rfl
theorem wI {l:List Int}{i:Nat}(h:i < l.length):l[i]?=some (g l i):=by
 have e:l[i]?=some l[i]:=List.getElem?_eq_getElem h
 rw[e,wH e]
theorem zEe {l:List Int}{f:Int→Int}{i:Nat}(h:i < l.length):g (l.map f) i=f (g l i):=wH (by rw[List.getElem?_map,wI h];rfl)
theorem g_zip {a b:List Int}{f:Int→Int→Int}{i:Nat}(h:i < a.length)(h':i < b.length):g (List.zipWith f a b) i=f (g a i) (g b i):=wH (by rw[List.getElem?_zipWith,wI h,wI h'])
theorem zDz {a b:List Int}{i:Nat}(h:i < a.length):g (a ++ b) i=g a i:=by unfold g;rw[List.getD_eq_getElem?_getD,List.getD_eq_getElem?_getD,List.getElem?_append_left h]
theorem g_app2 {a b:List Int}{n i:Nat}(h:a.length=n):g (a ++ b) (n+i)=g b i:=by unfold g;rw[List.getD_eq_getElem?_getD,List.getD_eq_getElem?_getD,List.getElem?_append_right (by omega)];congr 2;omega
theorem g_drop {a:List Int}{n i:Nat}:g (a.drop n) i=g a (n+i):=by unfold g;rw[List.getD_eq_getElem?_getD,List.getD_eq_getElem?_getD,List.getElem?_drop]
theorem zGa {l:List Int}{x:Int}(h:x∈l):∃ i,i < l.length∧g l i=x:=by
 obtain⟨i,hi,e⟩:=List.getElem_of_mem h
 exact⟨i,hi,wH (by rw[List.getElem?_eq_getElem hi,e])⟩
theorem j8 {l:List Int}{i:Nat}(h:i < l.length):g l i∈l:=List.mem_of_getElem? (wI h)
theorem g_rep {n i:Nat}{x:Int}(h:i < n):g (List.replicate n x) i=x:=wH (by rw[List.getElem?_replicate,if_pos h])
theorem g_ext {a b:List Int}(l:a.length=b.length)(h:∀ i,i < a.length→g a i=g b i):a=b:=by
 refine List.ext_getElem? fun i=>?_
 rcases Nat.lt_or_ge i a.length with c | c
 ·rw[wI c,wI (by omega),h i c]
 ·rw[List.getElem?_eq_none c,List.getElem?_eq_none (by omega)]
theorem g_set {a:List Int}{i j:Nat}{x:Int}(h:i < a.length):g (a.set i x) j=if j=i then x else g a j:=by
 unfold g
 rw[List.getD_eq_getElem?_getD,List.getD_eq_getElem?_getD]
 by_cases c:j=i
 ·rw[if_pos c,c,List.getElem?_set_self h];rfl
 ·rw[if_neg c,List.getElem?_set_ne (by omega)]
def dot (a b:List Int):Int:=(List.zipWith (· * ·) a b).sum
theorem zAr {a b:List Int}{n:Nat}(la:a.length=n)(lb:b.length=n):dot a b=Ld.S n fun i=>g a i.toNat*g b i.toNat:=by
 rw[← Pl.S_sum (fun i=>g a i.toNat*g b i.toNat)]
 unfold dot
 congr 1
 refine List.ext_getElem? fun i=>?_
 rw[List.getElem?_zipWith,List.getElem?_map]
 rcases Nat.lt_or_ge i n with c | c
 ·rw[wI (by omega),wI (by omega),List.getElem?_range c];rfl
 ·rw[List.getElem?_eq_none (by omega),List.getElem?_eq_none (by omega),List.getElem?_eq_none (l:=List.range n) (by rw[List.length_range];omega)];rfl
def les (row:List Int)(many:Int)(other:List Int)(m:Int):List Int:=if many=0 then row else List.zipWith (fun x y=>(x-many*y)%m) row other
theorem les_len {row other:List Int}(l:row.length=other.length)(many m:Int):(les row many other m).length=row.length:=by
 unfold les
 split
 ·rfl
 ·rw[List.length_zipWith,← l,Nat.min_self]
def In (m:Int)(l:List Int):Prop:=∀ x∈l,0≤x∧x < m
theorem In.g {m:Int}{l:List Int}(h:In m l)(m0:0 < m)(i:Nat):0≤Lt.g l i∧Lt.g l i < m:=by
 rcases Nat.lt_or_ge i l.length with c | c
 ·exact h _ (j8 c)
 ·rw[g_out c];omega
theorem In.mod {m:Int}(m0:0 < m)(l:List Int)(f:Int→Int):In m (l.map fun x=>f x%m):=fun x hx=>by
 obtain⟨y,_,rfl⟩:=List.mem_map.mp hx
 exact⟨Int.emod_nonneg _ (by omega),Int.emod_lt_of_pos _ m0⟩
theorem In.zip {m:Int}(m0:0 < m)(a b:List Int)(f:Int→Int→Int):In m (List.zipWith (fun x y=>f x y%m) a b):=fun x hx=>by
 obtain⟨i,hi,e⟩:=List.getElem_of_mem hx
 rw[List.getElem_zipWith] at e
 rw[← e]
 exact⟨Int.emod_nonneg _ (by omega),Int.emod_lt_of_pos _ m0⟩
theorem les_in {row other:List Int}{many m:Int}(m0:0 < m)(h:In m row):In m (les row many other m):=by
 unfold les
 split
 ·exact h
 ·exact In.zip m0 _ _ fun x y=>x-many*y
theorem les_g {row other:List Int}{many m:Int}(m0:0 < m)(h:In m row)(l:row.length=other.length){i:Nat}(hi:i < row.length):Lt.g (les row many other m) i=(Lt.g row i-many*Lt.g other i)%m:=by
 unfold les
 by_cases c:many=0
 ·rw[if_pos c,c,Int.zero_mul,Int.sub_zero,Int.emod_eq_of_lt (h.g m0 i).1 (h.g m0 i).2]
 ·rw[if_neg c,g_zip hi (by omega)]
def hun (n i:Nat)(x:Int):List Int:=(List.replicate n 0).set i x
theorem zAa (n i:Nat)(x:Int):(hun n i x).length=n:=by unfold hun;rw[List.length_set,List.length_replicate]
theorem zBu {n i j:Nat}{x:Int}(h:i < n):Lt.g (hun n i x) j=if j=i then x else 0:=by
 unfold hun
 rw[g_set (by rw[List.length_replicate];exact h)]
 by_cases c:j=i
 ·rw[if_pos c,if_pos c]
 ·rw[if_neg c,if_neg c]
  rcases Nat.lt_or_ge j n with d | d
  ·exact g_rep d
  ·exact g_out (by rw[List.length_replicate];exact d)
end Rx
namespace Rx
open Lt (g)
def flp (k:Nat)(rows:List (List Int)):List (List Int):=(List.range k).map fun c=>rows.map fun row=>g row c
def spr':List Int→List Nat→List Int→List Int
 | l,[],_=>l
 | l,_::_,[]=>l
 | l,p::ps,x::xs=>spr' (l.set p x) ps xs
def spr (n:Nat)(ps:List Nat)(xs:List Int):List Int:=spr' (List.replicate n 0) ps xs
theorem spr_eq (n:Nat)(ps:List Nat)(xs:List Int):spr n ps xs=spr' (List.replicate n 0) ps xs:=rfl
theorem spr'_snoc:∀ (l:List Int)(ps:List Nat)(xs:List Int)(p:Nat)(x:Int),ps.length=xs.length→spr' l (ps ++ [p]) (xs ++ [x])=(spr' l ps xs).set p x
 | l,[],[],p,x,_=>rfl
 | l,q::ps,y::xs,p,x,h=>spr'_snoc (l.set q y) ps xs p x (by simpa using h)
 | l,[],_::_,p,x,h=>by simp at h
 | l,_::_,[],p,x,h=>by simp at h
theorem spr'_len:∀ (l:List Int)(ps:List Nat)(xs:List Int),(spr' l ps xs).length=l.length
 | l,[],_=>by rw[spr']
 | l,_::_,[]=>rfl
 | l,p::ps,x::xs=>by
  show (spr' (l.set p x) ps xs).length=l.length
  rw[spr'_len,List.length_set]
theorem jR (n:Nat)(ps:List Nat)(xs:List Int):(spr n ps xs).length=n:=by rw[spr_eq,spr'_len,List.length_replicate]
theorem zCv {c:Nat}:∀ (l:List Int)(ps:List Nat)(xs:List Int),c∉ps→(∀ p∈ps,p < l.length)→g (spr' l ps xs) c=g l c
 | l,[],_,_,_=>by rw[spr']
 | l,_::_,[],_,_=>rfl
 | l,p::ps,x::xs,h,hl=>by
  rw[List.mem_cons,not_or] at h
  show g (spr' (l.set p x) ps xs) c=g l c
  rw[zCv (l.set p x) ps xs h.2 (fun q hq=>by rw[List.length_set];exact hl q (List.mem_cons_of_mem _ hq)),g_set (hl p List.mem_cons_self),if_neg h.1]
theorem spr'_at:∀ (l:List Int)(ps:List Nat)(xs:List Int),ps.Nodup→(∀ p∈ps,p < l.length)→∀ (i p:Nat)(x:Int),ps[i]?=some p→xs[i]?=some x→g (spr' l ps xs) p=x
 | l,[],_,_,_,i,p,x,h,_=>by simp at h
 | l,_::_,[],_,_,i,p,x,_,h=>by simp at h
 | l,q::ps,y::xs,nd,hl,i,p,x,hp,hx=>by
  rw[List.nodup_cons] at nd
  have hl':∀ p∈ps,p < (l.set q y).length:=fun z hz=>by rw[List.length_set];exact hl z (List.mem_cons_of_mem _ hz)
  show g (spr' (l.set q y) ps xs) p=x
  cases i with
  | zero =>
   rw[List.getElem?_cons_zero] at hp hx
   cases hp;cases hx
   rw[zCv _ ps xs nd.1 hl',g_set (hl q List.mem_cons_self),if_pos rfl]
  | succ i =>
   rw[List.getElem?_cons_succ] at hp hx
   exact spr'_at (l.set q y) ps xs nd.2 hl' i p x hp hx
theorem zEu {n c:Nat}{ps:List Nat}{xs:List Int}(h:c∉ps)(hl:∀ p∈ps,p < n):g (spr n ps xs) c=0:=by
 rw[spr_eq,zCv _ ps xs h (fun p hp=>by rw[List.length_replicate];exact hl p hp)]
 rcases Nat.lt_or_ge c n with d | d
 ·exact g_rep d
 ·exact g_out (by rw[List.length_replicate];exact d)
theorem spr_at {n:Nat}{ps:List Nat}{xs:List Int}(nd:ps.Nodup)(hl:∀ p∈ps,p < n){i p:Nat}{x:Int}(hp:ps[i]?=some p)(hx:xs[i]?=some x):g (spr n ps xs) p=x:=by
 rw[spr_eq];exact spr'_at _ ps xs nd (fun p hp=>by rw[List.length_replicate];exact hl p hp) i p x hp hx
theorem S_spr {n:Nat}{F:Int→Int}:∀ {ps:List Nat}{xs:List Int}{k:Nat},ps.length=k→xs.length=k→ps.Nodup→(∀ p∈ps,p < n) →
  (Ld.S n fun c=>F c*g (spr n ps xs) c.toNat)=Ld.S k fun i=>F (ps.getD i.toNat 0)*g xs i.toNat:=by
 intro ps xs k lp lx nd hl
 -- each filled place by its own
 have e1:(Ld.S n fun c=>F c*g (spr n ps xs) c.toNat)=Ld.S n fun c=>Ld.S k fun i=>if c=(ps.getD i.toNat 0:Int) then F c*g xs i.toNat else 0:=Ld.zH fun c hc=>by
  rw[Int.toNat_natCast]
  by_cases m:c∈ps
  ·obtain⟨j,hj,ej⟩:=List.getElem_of_mem m
   have pj:ps[j]?=some c:=by rw[List.getElem?_eq_getElem hj,ej]
   rw[spr_at nd hl pj (wI (by omega))]
   have uni:∀ i:Nat,i < k→(c:Int)=(ps.getD (i:Int).toNat 0:Int)→i=j:=fun i hi z=>by
    have z':c=ps.getD i 0:=by rw[Int.toNat_natCast] at z;omega
    rw[List.getD_eq_getElem?_getD,List.getElem?_eq_getElem (show i < ps.length by omega)] at z'
    have pw:=List.pairwise_iff_getElem.mp nd
    have z2:c=ps[i]'(by omega):=z'
    rcases Nat.lt_trichotomy i j with q | q | q
    ·exact absurd (by rw[← z2,ej]) (pw i j (by omega) hj q)
    ·exact q
    ·exact absurd (by rw[← z2,ej]) (pw j i hj (by omega) q)
   rw[Lt.S_only (c:=j) (by omega) fun i hi ne=>if_neg fun z=>ne (uni i hi z)]
   ·have:ps.getD (j:Int).toNat 0=c:=by rw[Int.toNat_natCast,List.getD_eq_getElem?_getD,pj];rfl
    rw[this,if_pos rfl,Int.toNat_natCast]
  ·rw[zEu m hl,Int.mul_zero]
   have non:∀ i:Nat,i < k→¬ (c:Int)=(ps.getD (i:Int).toNat 0:Int):=fun i hi z=>m (by
    have z':c=ps.getD i 0:=by rw[Int.toNat_natCast] at z;omega
    rw[List.getD_eq_getElem?_getD,List.getElem?_eq_getElem (show i < ps.length by omega)] at z'
    rw[z'];exact List.getElem_mem _)
   rw[Ld.zH (G:=fun _=>0) fun i hi=>if_neg (non i hi),Ld.jA]
 rw[e1,Ld.jH]
 refine Ld.zH fun i hi=>?_
 have pi:ps.getD (i:Int).toNat 0 < n:=by
  rw[Int.toNat_natCast,List.getD_eq_getElem?_getD,List.getElem?_eq_getElem (show i < ps.length by omega)]
  exact hl _ (List.getElem_mem _)
 rw[Ld.S_one (G:=fun c=>F c*g xs (i:Int).toNat) (by omega),if_pos (by omega)]
end Rx
namespace Rx
open Lt (g)
open Mx
abbrev Fd:=Nat×Nat×List Int
def st (steps:List (List Int)):Nat→Int→Int:=fun j c=>g (steps.getD j []) c.toNat
def fn (l:List Int):Int→Int:=fun c=>g l c.toNat
def nm (fs:List Fd)(t:Nat):Nat:=(fs.getD t (0,0,[])).1
def cl (fs:List Fd)(t:Nat):Nat:=(fs.getD t (0,0,[])).2.1
def rw' (fs:List Fd)(t:Nat):Int→Int:=fn (fs.getD t (0,0,[])).2.2
def clr1 (p:Int)(l:List Int)(f:Fd):List Int:=les l (g l f.2.1) f.2.2 p
def clr (p:Int)(fs:List Fd)(step:List Int):List Int:=fs.foldl (clr1 p) (step.map fun x=>x%p)
theorem clr_snoc (p:Int)(fs:List Fd)(f:Fd)(step:List Int):clr p (fs ++ [f]) step=clr1 p (clr p fs step) f:=by unfold clr;rw[List.foldl_append];rfl
theorem clr_nil (p:Int)(step:List Int):clr p [] step=step.map fun x=>x%p:=rfl
def Rok (p:Int)(w:Nat)(fs:List Fd):Prop:=∀ f∈fs,f.2.2.length=w∧In p f.2.2∧f.2.1 < w
theorem zEo {p:Int}(p0:0 < p){w:Nat}{step:List Int}(l:step.length=w):∀ {k:Nat}{fs:List Fd},fs.length=k→Rok p w fs→(clr p fs step).length=w∧In p (clr p fs step):=by
 intro k
 induction k with
 | zero =>
  intro fs e _
  rw[List.eq_nil_of_length_eq_zero e,clr_nil]
  exact⟨by rw[List.length_map,l],In.mod p0 step fun x=>x⟩
 | succ k ih =>
  intro fs e h
  have ne:fs≠[]:=fun z=>by rw[z] at e;cases e
  obtain⟨fs',f,rfl⟩:∃ fs' f,fs=fs' ++ [f]:=⟨fs.dropLast,fs.getLast ne,(List.dropLast_concat_getLast ne).symm⟩
  rw[List.length_append] at e
  have r:=ih (fs:=fs') (by simpa using e) fun f hf=>h f (List.mem_append_left _ hf)
  have hf:=h f (List.mem_append_right _ List.mem_cons_self)
  rw[clr_snoc]
  exact⟨by unfold clr1;rw[les_len (by rw[r.1,hf.1]),r.1],les_in p0 r.2⟩
theorem clr_Clr {p:Int}(p0:0 < p){w:Nat}{stp:Nat→Int→Int}{k:Nat}{num col:Nat→Nat}{row:Nat→Int→Int}(cr:Cor p w stp k num col row){fs:List Fd}(rk:Rok p w fs)(lk:fs.length≤k)(ag:∀ (t:Nat)(f:Fd),fs[t]?=some f→col t=f.2.1∧row t=fn f.2.2)
  {step:List Int}(l:step.length=w):Clr p w stp k num col (fn step) fs.length (fn (clr p fs step)):=by
 obtain⟨m,hm⟩:∃ m,m=fs.length:=⟨_,rfl⟩
 induction m generalizing fs with
 | zero =>
  rw[List.eq_nil_of_length_eq_zero hm.symm,clr_nil]
  refine Clr.start fun c hc=>?_
  unfold fn
  rw[Int.toNat_natCast,zEe (by omega)]
  exact Lt.vX _ _
 | succ m ih =>
  have ne:fs≠[]:=fun z=>by rw[z] at hm;cases hm
  obtain⟨fs',f,rfl⟩:∃ fs' f,fs=fs' ++ [f]:=⟨fs.dropLast,fs.getLast ne,(List.dropLast_concat_getLast ne).symm⟩
  have rk':Rok p w fs':=fun f hf=>rk f (List.mem_append_left _ hf)
  have l':fs'.length=m:=by rw[List.length_append] at hm;simpa using hm.symm
  have hf:=rk f (List.mem_append_right _ List.mem_cons_self)
  have a:=ih rk' (by rw[List.length_append] at lk;omega) (fun t f h=>ag t f (by rw[List.getElem?_append_left (by exact (List.getElem?_eq_some_iff.mp h).1)];exact h)) l'.symm
  have b:=ag fs'.length f (by rw[List.getElem?_append_right (Nat.le_refl _),Nat.sub_self];rfl)
  have ok:=zEo p0 l rfl rk'
  have e:(fs' ++ [f]).length=fs'.length+1:=by rw[List.length_append];rfl
  rw[e,clr_snoc]
  refine Clr.step cr (by rw[e] at lk;omega) a fun c hc=>?_
  rw[b.1,b.2]
  unfold fn clr1
  rw[Int.toNat_natCast,Int.toNat_natCast,les_g p0 ok.2 (by rw[ok.1,hf.1]) (by omega)]
  exact Lt.vX _ _
structure Crn (p:Int)(w:Nat)(steps:List (List Int))(i:Nat)(fs:List Fd):Prop where
 cor:Cor p w (st steps) fs.length (nm fs) (cl fs) (rw' fs)
 rok:Rok p w fs
 lt:∀ f∈fs,f.1 < i
 srt:fs.Pairwise fun a b=>a.1 < b.1
 all:∀ j,j < i→Hm p w (st steps) fs.length (nm fs) (st steps j)
theorem Crn.start (p:Int)(w:Nat)(steps:List (List Int)):Crn p w steps 0 [] :=
 ⟨Cor.start ..,fun f h=>(nomatch h),fun f h=>(nomatch h),.nil,fun j h=>absurd h (Nat.not_lt_zero _)⟩
theorem getD_at {fs:List Fd}{t:Nat}{f:Fd}(h:fs[t]?=some f):fs.getD t (0,0,[])=f:=by rw[List.getD_eq_getElem?_getD,h];rfl
theorem Crn.clr {p:Int}(p0:0 < p){w:Nat}{steps:List (List Int)}{i:Nat}{fs:List Fd}(h:Crn p w steps i fs){step:List Int}(l:step.length=w):Clr p w (st steps) fs.length (nm fs) (cl fs) (fn step) fs.length (fn (clr p fs step)) :=
 clr_Clr p0 h.cor h.rok (Nat.le_refl _) (fun t f e=>⟨by unfold cl;rw[getD_at e],by unfold rw';rw[getD_at e]⟩) l
theorem Crn.hm {p:Int}(p0:0 < p){w:Nat}{steps:List (List Int)}{i:Nat}{fs:List Fd}(h:Crn p w steps i fs){step:List Int}(l:step.length=w)(z:∀ c,c < w→g (Rx.clr p fs step) c=0):Hm p w (st steps) fs.length (nm fs) (fn step):=by
 obtain⟨x,hx⟩:=(h.clr p0 l).eq
 refine⟨x,fun c hc=>?_⟩
 have a:=hx c hc
 unfold fn at a
 rw[Int.toNat_natCast,z c hc] at a
 have:=Int.dvd_neg.mpr a
 unfold fn
 rw[Int.toNat_natCast]
 rwa [show ∀ x y:Int,-(0-(x-y))=x-y from fun x y=>by omega] at this
theorem fn_st {steps:List (List Int)}{i:Nat}{step:List Int}(e:steps[i]?=some step):st steps i=fn step:=by
 unfold st fn
 funext c
 rw[List.getD_eq_getElem?_getD,e];rfl
theorem Crn.none {p:Int}(p0:0 < p){w:Nat}{steps:List (List Int)}{i:Nat}{fs:List Fd}(h:Crn p w steps i fs){step:List Int}(e:steps[i]?=some step)(l:step.length=w)(z:∀ c,c < w→g (Rx.clr p fs step) c=0):Crn p w steps (i+1) fs:=by
 refine⟨h.cor,h.rok,fun f hf=>Nat.lt_succ_of_lt (h.lt f hf),h.srt,fun j hj=>?_⟩
 rcases Nat.lt_succ_iff_lt_or_eq.mp hj with q | q
 ·exact h.all j q
 ·rw[q,fn_st e];exact h.hm p0 l z
theorem Crn.some {p:Int}(hp:Pt.Prm p){w:Nat}{steps:List (List Int)}{i:Nat}{fs:List Fd}(h:Crn p w steps i fs){step:List Int}(e:steps[i]?=some step)(l:step.length=w){c:Nat}(hc:c < w)(nz:g (Rx.clr p fs step) c≠0){u:Int}(hu:p∣g (Rx.clr p fs step) c*u-1) :
  Crn p w steps (i+1) (fs ++ [(i,c,(Rx.clr p fs step).map fun x=>x*u%p)]):=by
 have p2:=hp.1
 have p0:0 < p:=by omega
 have ok:=zEo p0 l rfl h.rok
 obtain⟨f,hf⟩:∃ f:Fd,f=(i,c,(Rx.clr p fs step).map fun x=>x*u%p):=⟨_,rfl⟩
 rw[← hf]
 have at1:∀ t,t < fs.length→(fs ++ [f]).getD t (0,0,[])=fs.getD t (0,0,[]):=fun t ht=>by rw[List.getD_eq_getElem?_getD,List.getD_eq_getElem?_getD,List.getElem?_append_left ht]
 have at2:(fs ++ [f]).getD fs.length (0,0,[])=f:=getD_at (by rw[List.getElem?_append_right (Nat.le_refl _),Nat.sub_self];rfl)
 have cr:=h.cor.congr (num':=nm (fs ++ [f])) (col':=cl (fs ++ [f])) (row':=rw' (fs ++ [f])) (fun t ht=>by unfold nm;rw[at1 t ht]) (fun t ht=>by unfold cl;rw[at1 t ht]) (fun t ht=>by unfold rw';rw[at1 t ht])
 have en:nm (fs ++ [f]) fs.length=i:=by unfold nm;rw[at2,hf]
 have ec:cl (fs ++ [f]) fs.length=c:=by unfold cl;rw[at2,hf]
 have er:rw' (fs ++ [f]) fs.length=fn ((Rx.clr p fs step).map fun x=>x*u%p):=by unfold rw';rw[at2,hf]
 have cl':=clr_Clr p0 cr h.rok (Nat.le_refl _) (fun t f' e'=>by
  have tl:=(List.getElem?_eq_some_iff.mp e').1
  refine⟨by unfold cl;rw[at1 t tl,getD_at e'],by unfold rw';rw[at1 t tl,getD_at e']⟩) l
 have fg:fn (Rx.clr p fs step) c=g (Rx.clr p fs step) c:=by unfold fn;rw[Int.toNat_natCast]
 have lt:=ok.2.g p0 c
 have le:(fs ++ [f]).length=fs.length+1:=by rw[List.length_append];rfl
 have cor:=cr.snoc hp (left:=fn (Rx.clr p fs step)) (by rw[en,fn_st e];exact cl') (by rw[ec];exact hc) (by
  rw[ec,fg];exact fun d=>by
   have:=Int.le_of_dvd (show 0 < g (Rx.clr p fs step) c by omega) d
   omega) (u:=u) (by rw[ec,fg];exact hu) (fun c' hc'=>by
   rw[er];unfold fn
   rw[Int.toNat_natCast,zEe (by omega)];exact Lt.vX _ _)
 refine⟨by rw[le];exact cor,fun f' hf'=>?_,fun f' hf'=>?_,?_,fun j hj=>?_⟩
 ·rcases List.mem_append.mp hf' with q | q
  ·exact h.rok f' q
  ·rw[List.mem_singleton.mp q,hf]
   exact⟨by rw[List.length_map,ok.1],In.mod p0 _ fun x=>x*u,hc⟩
 ·rcases List.mem_append.mp hf' with q | q
  ·exact Nat.lt_succ_of_lt (h.lt f' q)
  ·rw[List.mem_singleton.mp q,hf];exact Nat.lt_succ_self i
 ·rw[List.pairwise_append]
  refine⟨h.srt,List.pairwise_singleton ..,fun a ha b hb=>?_⟩
  rw[List.mem_singleton.mp hb,hf];exact h.lt a ha
 ·rw[le]
  rcases Nat.lt_succ_iff_lt_or_eq.mp hj with q | q
  ·obtain⟨x,hx⟩:=h.all j q
   refine⟨fun s=>if s=(fs.length:Int) then 0 else x s,fun c' hc'=>?_⟩
   have a:=hx c' hc'
   have b:(Ld.S (fs.length+1) fun s=>(if s=(fs.length:Int) then 0 else x s)*st steps (nm (fs ++ [f]) s.toNat) c')=Ld.S fs.length fun s=>x s*st steps (nm fs s.toNat) c':=by
    show (Ld.S fs.length fun s=>(if s=(fs.length:Int) then 0 else x s)*st steps (nm (fs ++ [f]) s.toNat) c')+(if (fs.length:Int)=fs.length then 0 else x fs.length)*st steps (nm (fs ++ [f]) (fs.length:Int).toNat) c'=_
    rw[if_pos rfl,Int.zero_mul,Int.add_zero]
    refine Ld.zH fun s hs=>?_
    rw[if_neg (by omega),Int.toNat_natCast]
    have:nm (fs ++ [f]) s=nm fs s:=by unfold nm;rw[at1 s hs]
    rw[this]
   rw[b];exact a
  ·rw[q]
   refine⟨fun s=>if s=(fs.length:Int) then 1 else 0,fun c' hc'=>?_⟩
   have b:(Ld.S (fs.length+1) fun s=>(if s=(fs.length:Int) then 1 else 0)*st steps (nm (fs ++ [f]) s.toNat) c')=st steps i c':=by
    rw[Ld.zH (G:=fun s=>st steps (nm (fs ++ [f]) s.toNat) c'*if s=(fs.length:Int) then 1 else 0) fun s _=>Int.mul_comm ..,wC (F:=fun s=>st steps (nm (fs ++ [f]) s.toNat) c') (Nat.lt_succ_self _),Int.toNat_natCast,en]
   rw[b,Int.sub_self];exact Int.dvd_zero _
theorem Crn.fr {p:Int}{w:Nat}{steps:List (List Int)}{n:Nat}{fs:List Fd}(h:Crn p w steps n fs):Fr p w n (st steps) fs.length (nm fs) (cl fs):=by
 refine⟨h.cor.colw,fun t ht=>?_,h.cor.ind _ (Nat.le_refl _),h.all⟩
 unfold nm
 rw[getD_at (List.getElem?_eq_getElem ht)]
 exact h.lt _ (List.getElem_mem ht)
end Rx
namespace Rx
open Lt (g)
open Mx
def mt (rows:List (List Int)):Int→Int→Int:=fun i j=>g (rows.getD i.toNat []) j.toNat
theorem getR {rows:List (List Int)}{i:Nat}{row:List Int}(h:rows[i]?=some row):rows.getD i []=row:=by rw[List.getD_eq_getElem?_getD,h];rfl
theorem zHf (rows:List (List Int))(i j:Nat):mt rows i j=g (rows.getD i []) j:=by unfold mt;rw[Int.toNat_natCast,Int.toNat_natCast]
theorem wD {rows:List (List Int)}{i:Nat}(h:i < rows.length):rows[i]?=some (rows.getD i []):=by rw[List.getD_eq_getElem?_getD,List.getElem?_eq_getElem h];rfl
theorem vZ {rows:List (List Int)}{i:Nat}(h:i < rows.length):rows.getD i []∈rows:=List.mem_of_getElem? (wD h)
theorem les_dvd {row other:List Int}{many m:Int}(l:row.length=other.length){i:Nat}(hi:i < row.length):m∣g (les row many other m) i-(g row i-many*g other i):=by
 unfold les
 by_cases c:many=0
 ·rw[if_pos c,c,Int.zero_mul,Int.sub_zero,Int.sub_self];exact Int.dvd_zero _
 ·rw[if_neg c,g_zip hi (by omega)];exact Lt.vX _ _
def aug (k:Nat)(rows:List (List Int)):List (List Int):=rows.mapIdx fun i row=>row ++ hun k i 1
def wl (k:Nat)(ls:List (List Int)):Int→Int→Int:=fun i j=>g (ls.getD i.toNat []) j.toNat
def wr (k:Nat)(ls:List (List Int)):Int→Int→Int:=fun i t=>g (ls.getD i.toNat []) (k+t.toNat)
def und1 (m:Int)(c:Nat)(v:Int)(ls:List (List Int)):List (List Int) :=
 (ls.map fun row=>les row (g row c) ((ls.getD c []).map fun x=>x*v%m) m).set c ((ls.getD c []).map fun x=>x*v%m)
theorem aug_gj {m:Int}{k:Nat}{rows:List (List Int)}(lr:rows.length=k)(lw:∀ row∈rows,row.length=k):Gj m k (mt rows) 0 (wl k (aug k rows)) (wr k (aug k rows)):=by
 have at_:∀ i:Nat,i < k→(aug k rows).getD i []=rows.getD i [] ++ hun k i 1:=fun i hi=>by
  refine getR ?_
  unfold aug
  rw[List.getElem?_mapIdx,wD (by omega)];rfl
 have len:∀ i:Nat,i < k→(rows.getD i []).length=k:=fun i hi=>lw _ (vZ (by omega))
 have A:∀ i j:Nat,i < k→j < k→wl k (aug k rows) i j=mt rows i j:=fun i j hi hj=>by
  unfold wl;rw[Int.toNat_natCast,Int.toNat_natCast,at_ i hi,zHf,zDz (by rw[len i hi];exact hj)]
 have B:∀ i t:Nat,i < k→wr k (aug k rows) i t=if t=i then 1 else 0:=fun i t hi=>by
  unfold wr;rw[Int.toNat_natCast,Int.toNat_natCast,at_ i hi,g_app2 (len i hi),zBu hi]
 have s:=Gj.start (m:=m) (k:=k) (M:=mt rows)
 refine⟨fun i j hi hj=>?_,fun i j _ hj=>absurd hj (Nat.not_lt_zero _),fun i t hi ht _ ne=>?_,fun i hi _=>?_⟩
 ·rw[A i j hi hj]
  have a:=s.rc i j hi hj
  have e:(Ld.S k fun t=>wr k (aug k rows) i t*mt rows t j)=Ld.S k fun t=>(fun (i t:Int)=>if t=i then (1:Int) else 0) i t*mt rows t j:=Ld.zH fun t ht=>by
   rw[B i t hi]
   by_cases c:t=i
   ·rw[if_pos c];dsimp only;rw[if_pos (by omega)]
   ·rw[if_neg c];dsimp only;rw[if_neg (by omega)]
  rw[e];exact a
 ·rw[B i t hi,if_neg ne];exact Int.dvd_zero _
 ·rw[B i i hi,if_pos rfl,Int.sub_self];exact Int.dvd_zero _
theorem und1_gj {m:Int}{k:Nat}{M:Int→Int→Int}{c:Nat}{ls:List (List Int)}(ll:ls.length=k)(lw:∀ row∈ls,row.length=k+k)(h:Gj m k M c (wl k ls) (wr k ls))(hc:c < k){v:Int}(hv:m∣g (ls.getD c []) c*v-1) :
  Gj m k M (c+1) (wl k (und1 m c v ls)) (wr k (und1 m c v ls)):=by
 have len:∀ i:Nat,i < k→(ls.getD i []).length=k+k:=fun i hi=>lw _ (vZ (by omega))
 have own:(und1 m c v ls).getD c []=(ls.getD c []).map fun x=>x*v%m:=by
  refine getR ?_
  unfold und1
  rw[List.getElem?_set_self (by rw[List.length_map];omega)]
 have oth:∀ i:Nat,i < k→i≠c→(und1 m c v ls).getD i []=les (ls.getD i []) (g (ls.getD i []) c) ((ls.getD c []).map fun x=>x*v%m) m:=fun i hi ne=>by
  refine getR ?_
  unfold und1
  rw[List.getElem?_set_ne (by omega),List.getElem?_map,wD (by omega)];rfl
 have cg:∀ j:Nat,j < k+k→g ((ls.getD c []).map fun x=>x*v%m) j=g (ls.getD c []) j*v%m:=fun j hj=>zEe (by rw[len c hc];exact hj)
 have o1:∀ j:Nat,j < k+k→m∣g ((und1 m c v ls).getD c []) j-g (ls.getD c []) j*v:=fun j hj=>by rw[own,cg j hj];exact Lt.vX _ _
 have o2:∀ i j:Nat,i < k→i≠c→j < k+k→m∣g ((und1 m c v ls).getD i []) j-(g (ls.getD i []) j-g (ls.getD i []) c*(g (ls.getD c []) j*v)):=fun i j hi ne hj=>by
  rw[oth i hi ne]
  have a:=les_dvd (m:=m) (many:=g (ls.getD i []) c) (row:=ls.getD i []) (other:=(ls.getD c []).map fun x=>x*v%m) (by rw[List.length_map,len i hi,len c hc]) (i:=j) (by rw[len i hi];exact hj)
  rw[cg j hj] at a
  have b:m∣g (ls.getD i []) c*(g (ls.getD c []) j*v%m-g (ls.getD c []) j*v):=Int.dvd_mul_of_dvd_right (Lt.vX _ _)
  have:=Int.dvd_sub a b
  generalize g (ls.getD c []) j*v%m=y at *
  rwa [show ∀ a b d e:Int,a-(b-d*y)-d*(y-e)=a-(b-d*e) from fun a b d e=>by grind] at this
 refine h.step hc (v:=v) ?_ (fun j hj=>?_) (fun t ht=>?_) (fun i j hi ne hj=>?_) (fun i t hi ne ht=>?_)
 ·unfold wl;rw[Int.toNat_natCast];exact hv
 ·unfold wl;rw[Int.toNat_natCast,Int.toNat_natCast];exact o1 j (by omega)
 ·unfold wr;rw[Int.toNat_natCast,Int.toNat_natCast];exact o1 (k+t) (by omega)
 ·unfold wl;rw[Int.toNat_natCast,Int.toNat_natCast,Int.toNat_natCast];exact o2 i j hi ne (by omega)
 ·unfold wr wl;rw[Int.toNat_natCast,Int.toNat_natCast,Int.toNat_natCast];exact o2 i (k+t) hi ne (by omega)
theorem und1_len {m:Int}{k:Nat}{c:Nat}{v:Int}{ls:List (List Int)}(ll:ls.length=k)(hc:c < k)(lw:∀ row∈ls,row.length=k+k):(und1 m c v ls).length=k∧∀ row∈und1 m c v ls,row.length=k+k:=by
 have lc:(ls.getD c []).length=k+k:=lw _ (vZ (by omega))
 refine⟨by unfold und1;rw[List.length_set,List.length_map,ll],fun row hr=>?_⟩
 unfold und1 at hr
 rcases List.mem_or_eq_of_mem_set hr with q | q
 ·obtain⟨r,hr',rfl⟩:=List.mem_map.mp q
  rw[les_len (by rw[List.length_map,lc,lw r hr']),lw r hr']
 ·rw[q,List.length_map,lc]
theorem drop_li {m:Int}{k:Nat}{M:Int→Int→Int}{ls:List (List Int)}(ll:ls.length=k)(h:Gj m k M k (wl k ls) (wr k ls)):LI m k (mt (ls.map fun row=>row.drop k)) M:=by
 have e:=h.end
 intro i j hi hj
 have a:=e i j hi hj
 have b:(Ld.S k fun t=>mt (ls.map fun row=>row.drop k) i t*M t j)=Ld.S k fun t=>wr k ls i t*M t j:=Ld.zH fun t ht=>by
  rw[zHf]
  unfold wr
  rw[Int.toNat_natCast,Int.toNat_natCast,getR (row:=(ls.getD i []).drop k) (by rw[List.getElem?_map,wD (by omega)];rfl),g_drop]
 rw[b];exact a
theorem cop_one {p:Int}(hp:Pt.Prm p){x:Int}(nx:¬ p∣x){E:Nat}{d:Int}(d1:1≤d)(dm:d∣p^E)(dx:d∣x):d=1:=by
 have c:=Pt.copr hp nx
 have c2:Nat.Coprime (p.natAbs^E) x.natAbs:=Nat.Coprime.pow_left E c
 have a:d.natAbs∣p.natAbs^E:=by rw[← Int.natAbs_pow];exact Int.natAbs_dvd_natAbs.mpr dm
 have b:d.natAbs∣x.natAbs:=Int.natAbs_dvd_natAbs.mpr dx
 have:=Nat.dvd_gcd a b
 rw[c2] at this
 have:=Nat.le_of_dvd Nat.one_pos this
 omega
end Rx
namespace Mx
theorem bot_dvd {p:Int}(p2:2≤p){k:Nat}{R:Int→Int→Int}(ci:CI p k R){goal:Int→Int}{D b:Int}{y x:Int→Int}(b0:0 < b)(hy:∀ i:Nat,i < k→(Ld.S k fun t=>R i t*y t)=D*goal i)(hx:∀ i:Nat,i < k→(Ld.S k fun t=>R i t*x t)=b*goal i)
  (one:∀ d:Int,d∣b→(∀ t:Nat,t < k→d∣x t)→d∣1):b∣D∧∀ t:Nat,t < k→D*x t=b*y t:=by
 have e:∀ t:Nat,t < k→D*x t=b*y t:=fun t ht=>by
  have:=ci.inj p2 (y:=fun t=>D*x t-b*y t) (fun i hi=>by
   have:(Ld.S k fun t=>R i t*(D*x t-b*y t))=D*(Ld.S k fun t=>R i t*x t) + -b*Ld.S k fun t=>R i t*y t:=by
    rw[← Ld.vL,← Ld.vL,← Ld.wS];exact Ld.zH fun t _=>by grind
   rw[this,hx i hi,hy i hi];grind) t ht
  have z:D*x t-b*y t=0:=this
  omega
 refine⟨?_,e⟩
 obtain⟨G,hG⟩:∃ G:Nat,G=Int.gcd b D:=⟨_,rfl⟩
 obtain⟨b',hb⟩:(G:Int)∣b:=by rw[hG];exact Int.gcd_dvd_left ..
 obtain⟨D',hD⟩:(G:Int)∣D:=by rw[hG];exact Int.gcd_dvd_right ..
 have G0:0 < G:=by
  rcases Nat.eq_zero_or_pos G with z | z
  ·rw[z] at hb;have:b=0:=by rw[hb];exact Int.zero_mul _
   omega
  ·exact z
 have cop:Int.gcd b' D'=1:=by
  rw[hb,hD,Int.gcd_mul_left,Int.natAbs_natCast] at hG
  have:G*1=G*Int.gcd b' D':=by rw[Nat.mul_one];exact hG
  exact (Nat.eq_of_mul_eq_mul_left G0 this).symm
 have d1:b'∣1:=one b' ⟨G,by rw[hb,Int.mul_comm]⟩ fun t ht=>by
  have h:=e t ht
  rw[hb,hD] at h
  have h':D'*x t=b'*y t:=Int.eq_of_mul_eq_mul_left (show (G:Int)≠0 by omega) (by rw[← Int.mul_assoc,← Int.mul_assoc];exact h)
  have d:b'∣D'*x t:=⟨y t,h'⟩
  have d':=Int.natAbs_dvd_natAbs.mpr d
  rw[Int.natAbs_mul] at d'
  exact Int.natAbs_dvd_natAbs.mp (Nat.Coprime.dvd_of_dvd_mul_left cop d')
 obtain⟨z,hz⟩:=d1
 refine⟨z*D',?_⟩
 rw[hD,hb]
 have:(G:Int)*D'=G*(b'*z)*D':=by rw[← hz,Int.mul_one]
 rw[this];grind
theorem sol2 {p:Int}(hp:Pt.Prm p){k C G:Nat}(hC:1≤C){R:Int→Int→Int}{goal:Int→Int}(ci:CI p k R)(hR:∀ i t:Nat,i < k→t < k→(R i t).natAbs≤C)(hg:∀ i:Nat,i < k→(goal i).natAbs≤G){D:Nat}(D1:1≤D)(al:∀ v:Int→Int,La k R fun i=>D*v i) :
  ∃ (x:Int→Int)(s:Int),0 < s∧¬ p∣s∧(∀ i:Nat,i < k→(Ld.S k fun t=>R i t*x t)=s*goal i)∧s∣D∧(∀ t:Nat,t < k→(x t).natAbs≤k*(D*(Sg.bnd k C*G)))∧∀ d:Int,d∣s→(∀ t:Nat,t < k→d∣x t)→d∣1:=by
 have p2:=hp.1
 obtain⟨x,s,s0,ps,hx,_,_,one⟩:=sol_ex hp (C:=C+G) (by omega) ci (fun i t hi ht=>Nat.le_trans (hR i t hi ht) (by omega)) (fun i hi=>Nat.le_trans (hg i hi) (by omega))
 -- what brings each place in
 have ex:∀ j:Nat,∃ X:Int→Int,j < k→(∀ i:Nat,i < k→(Ld.S k fun t=>R i t*X t)=D*if i=j then 1 else 0)∧∀ t:Nat,t < k→(X t).natAbs≤D*Sg.bnd k C:=fun j=>by
  by_cases hj:j < k
  ·obtain⟨z,s',s0',_,hz,zb,_,one'⟩:=sol_ex hp hC (goal:=fun i=>if i=(j:Int) then 1 else 0) ci hR (fun i hi=>by
    show (if (i:Int)=j then (1:Int) else 0).natAbs≤C
    by_cases c:(i:Int)=j
    ·rw[if_pos c];exact hC
    ·rw[if_neg c];exact Nat.zero_le _)
   obtain⟨X,hX⟩:=al fun i=>if i=(j:Int) then 1 else 0
   obtain⟨sd,e⟩:=bot_dvd p2 ci (goal:=fun i=>if i=(j:Int) then 1 else 0) s0' hX hz one'
   refine⟨X,fun _=>⟨fun i hi=>?_,fun t ht=>?_⟩⟩
   ·have:=hX i hi
    dsimp only at this
    rw[this]
    by_cases c:i=j
    ·rw[if_pos c,if_pos (by omega)]
    ·rw[if_neg c,if_neg (by omega)]
   ·have n:=congrArg Int.natAbs (e t ht)
    rw[Int.natAbs_mul,Int.natAbs_mul,Int.natAbs_natCast] at n
    have a:=Nat.mul_le_mul_left D (zb t ht)
    have b:=Nat.mul_le_mul_right (X t).natAbs (show 1≤s'.natAbs by omega)
    omega
  ·exact⟨fun _=>0,fun h=>absurd h hj⟩
 obtain⟨X,hX⟩:=Classical.axiomOfChoice ex
 have hy:∀ i:Nat,i < k→(Ld.S k fun t=>R i t*(fun t=>Ld.S k fun j=>X j.toNat t*goal j) t)=D*goal i:=fun i hi=>by
  have a:(Ld.S k fun t=>R i t*Ld.S k fun j=>X j.toNat t*goal j)=Ld.S k fun j=>Ld.S k fun t=>R i t*X j.toNat t*goal j:=by
   rw[Ld.jH]
   exact Ld.zH fun t _=>by rw[← Ld.vL];exact Ld.zH fun j _=>by grind
  show (Ld.S k fun t=>R i t*Ld.S k fun j=>X j.toNat t*goal j)=D*goal i
  rw[a]
  have b:(Ld.S k fun j=>Ld.S k fun t=>R i t*X j.toNat t*goal j)=Ld.S k fun j=>D*goal j*if j=(i:Int) then 1 else 0:=Ld.zH fun j hj=>by
   rw[Ld.zDr,Int.toNat_natCast,(hX j hj).1 i hi]
   by_cases c:i=j
   ·rw[if_pos c,if_pos (by omega)];grind
   ·rw[if_neg c,if_neg (by omega)];grind
  rw[b,wC (F:=fun j=>D*goal j) hi]
 obtain⟨sd,e⟩:=bot_dvd p2 ci s0 hy hx one
 refine⟨x,s,s0,ps,hx,sd,fun t ht=>?_,one⟩
 have n:=congrArg Int.natAbs (e t ht)
 rw[Int.natAbs_mul,Int.natAbs_mul,Int.natAbs_natCast] at n
 have yb:=Sg.S_bd (m:=k) (F:=fun j=>X j.toNat t*goal j) (B:=D*(Sg.bnd k C*G)) fun j hj=>by
  show (X (j:Int).toNat t*goal j).natAbs≤_
  rw[Int.natAbs_mul,Int.toNat_natCast,← Nat.mul_assoc]
  exact Nat.mul_le_mul ((hX j hj).2 t ht) (hg j hj)
 have sD:s.natAbs≤D:=Nat.le_of_dvd D1 (by have:=Int.natAbs_dvd_natAbs.mpr sd;rwa [Int.natAbs_natCast] at this)
 have a:=Nat.mul_le_mul sD yb
 rw[← n] at a
 exact Nat.le_of_mul_le_mul_left a D1
end Mx
namespace Rx
open Lt (g)
open Mx
def cn (n m:Int):Int:=if 2*(n%m)≤m then n%m else n%m-m
inductive Fra (sc H:Int):List Int→Int→Prop where
 | nil:Fra sc H [] 1
 | snoc {l:List Int}{b x r0 r1 c0 c1:Int}:Fra sc H l b→Eb.St sc (x*b%sc) r0 r1 c0 c1→H≤r0→r1 < H→Fra sc H (l ++ [x]) (b*c1.natAbs)
theorem Fra.pos {sc H:Int}(HH:H≤sc){l:List Int}{b:Int}(h:Fra sc H l b):0 < b:=by
 induction h with
 | nil=>decide
 | @snoc l b x r0 r1 c0 c1 _ s _ lt ih =>
  have ne:=s.c1_ne (by omega)
  exact Int.mul_pos ih (by omega)
theorem Fra.done {p:Int}(hp:Pt.Prm p){E:Nat}{s:Int}(s0:0 < s)(ps:¬ p∣s){B H:Int}(sB:s≤B)(hH:4*B≤H)(HH:H*H≤p^E){x:Nat→Int}{l:List Int}{b:Int}(h:Fra (p^E) H l b) :
  (∀ t,t < l.length→p^E∣s*g l t-x t)→(∀ t,t < l.length→((x t).natAbs:Int)≤B)→0 < b∧b∣s∧∀ t,t < l.length→s∣b*x t:=by
 induction h with
 | nil=>exact fun _ _=>⟨by decide,Int.one_dvd _,fun t ht=>absurd ht (Nat.not_lt_zero _)⟩
 | @snoc l b y r0 r1 c0 c1 _ st h0 h1 ih =>
  intro hr hx
  have len:(l ++ [y]).length=l.length+1:=by rw[List.length_append];rfl
  obtain⟨b0,bs,al⟩:=ih (fun t ht=>by have:=hr t (by omega);rwa [zDz ht] at this) (fun t ht=>hx t (by omega))
  have e:g (l ++ [y]) l.length=y:=by have:=g_app2 (a:=l) (b:=[y]) (n:=l.length) (i:=0) rfl;rw[Nat.add_zero] at this;rw[this];rfl
  have hy:=hr l.length (by omega)
  rw[e] at hy
  obtain⟨c0',d1,d2⟩:=frac hp s0 ps b0 bs hy sB (hx l.length (by omega)) hH HH st h0 h1
  refine⟨Int.mul_pos b0 c0',d1,fun t ht=>?_⟩
  rcases Nat.lt_or_ge t l.length with q | q
  ·have:=Int.dvd_mul_of_dvd_right (b:=(c1.natAbs:Int)) (al t q)
   rwa [show (c1.natAbs:Int)*(b*x t)=b*c1.natAbs*x t by grind] at this
  ·have:t=l.length:=by omega
   rw[this];exact d2
theorem zFn {p q:Int}(hp:Pt.Prm p)(hq:Pt.Prm q):∀ {E:Nat},q∣p^E→q=p
 | 0,h=>by
  rw[Int.pow_zero] at h
  have:=Int.le_of_dvd (by decide) h
  have:=hq.1
  omega
 | E+1,h=>by
  rw[Int.pow_succ] at h
  by_cases c:q∣p^E
  ·exact zFn hp hq c
  ·have d:=w9 hq h c
   have a:=Int.le_of_dvd (by have:=hp.1;omega) d
   rcases Int.lt_or_le q p with l | l
   ·exact absurd d (hp.2 q hq.1 l)
   ·omega
theorem Fra.red {p:Int}(hp:Pt.Prm p){E:Nat}{H Bt:Int}(HH:2*(H*H)≤p^E)(H0:1≤H)(BH:Bt < H){q:Int}(hq:Pt.Prm q){l:List Int}{b:Int}(h:Fra (p^E) H l b) :
  ∀ e:Int,1≤e→b*e=Bt→¬ q∣e→q∣b→(∀ x∈l,q∣cn (x*Bt) (p^E))→(q=p→∀ x∈l,p^E∣cn (x*Bt) (p^E)/p-Bt/p*x)→False:=by
 have HHH:H≤H*H:=by have:=Int.mul_le_mul_of_nonneg_right H0 (show 0≤H by omega);omega
 induction h with
 | nil =>
  intro e _ _ _ d _ _
  have:=Int.le_of_dvd (by decide) d
  have:=hq.1
  omega
 | @snoc l b x r0 r1 c0 c1 fr s h0 h1 ih =>
  intro e e1 eb qe qb tp ex
  have b0:=fr.pos (by omega)
  have ne:=s.c1_ne (by omega)
  have c0':0 < (c1.natAbs:Int):=by omega
  have bc:1≤b*c1.natAbs:=Int.mul_pos b0 c0'
  have r10:=s.p1
  by_cases qc:q∣(c1.natAbs:Int)
  ·have qc1:q∣c1:=Int.dvd_natAbs.mp qc
   have eB:e≤Bt:=by rw[← eb];have:=Int.mul_le_mul_of_nonneg_right bc (show 0≤e by omega);omega
   obtain⟨m0,m1,_,e1',det⟩:=s.m
   obtain⟨τ,hτ⟩:∃ τ:Int,τ=if 0≤c1 then r1*e else -(r1*e):=⟨_,rfl⟩
   have small:r1*e≤(H-1)*(H-1):=Int.mul_le_mul (by omega) (by omega) (by omega) (by omega)
   have sq:(H-1)*(H-1)=H*H-2*H+1:=by grind
   have re0:0≤r1*e:=Int.mul_nonneg r10 (by omega)
   have τa:((τ.natAbs:Nat):Int)=r1*e:=by rw[hτ];split <;> omega
   have scp:0 < p^E:=by omega
   obtain⟨v,hv⟩:=Lt.vX (x*b) (p^E)
   have con:p^E∣x*Bt-τ:=by
    rw[← eb,hτ]
    by_cases sg:0≤c1
    ·rw[if_pos sg,show (c1.natAbs:Int)=c1 by omega]
     refine⟨e*(-(c1*v)-m1),?_⟩
     have:x*b=x*b%p^E-p^E*v:=by omega
     have z:x*(b*c1*e)=x*b*c1*e:=by grind
     rw[z,this,e1'];grind
    ·rw[if_neg sg,show (c1.natAbs:Int)=-c1 by omega]
     refine⟨e*(c1*v+m1),?_⟩
     have:x*b=x*b%p^E-p^E*v:=by omega
     have z:x*(b * -c1*e)=-(x*b*c1*e):=by grind
     rw[z,this,e1'];grind
   have ce:cn (x*Bt) (p^E)=τ:=centre scp con (by rw[τa];omega)
   have qτ:=tp x (List.mem_append_right _ List.mem_cons_self)
   rw[ce] at qτ
   have qr:q∣r1:=by
    have:q∣e*r1:=by
     have a:q∣(τ.natAbs:Int):=Int.dvd_natAbs.mpr qτ
     rw[τa,Int.mul_comm] at a;exact a
    exact w9 hq this qe
   have qm1:¬ q∣m1:=fun d=>by
    have a:q∣m0*c1-m1*c0:=Int.dvd_sub (Int.dvd_mul_of_dvd_right qc1) (Int.dvd_mul_of_dvd_left d)
    have b:q∣1:=by
     rcases det with z | z
     ·rwa [z] at a
     ·rw[z] at a;exact Int.dvd_neg.mp a
    have:=Int.le_of_dvd (by decide) b
    have:=hq.1
    omega
   have qsc:q∣p^E:=by
    have a:q∣r1-c1*(x*b%p^E):=Int.dvd_sub qr (Int.dvd_mul_of_dvd_left qc1)
    rw[show r1-c1*(x*b%p^E)=m1*p^E by omega] at a
    exact w9 hq a qm1
   have qp:=zFn hp hq qsc
   subst qp
   have q0:q≠0:=by have:=hq.1;omega
   obtain⟨c1',hc1⟩:=qc1
   obtain⟨r1',hr1⟩:=qr
   have fin:=ex rfl x (List.mem_append_right _ List.mem_cons_self)
   rw[ce] at fin
   have key:q^E∣e*(r1'-c1'*(x*b)):=by
    by_cases sg:0≤c1
    ·rw[if_pos sg] at hτ
     have d1:τ/q=r1'*e:=by rw[hτ,hr1,Int.mul_assoc,Int.mul_ediv_cancel_left _ q0]
     have d2:Bt/q=b*c1'*e:=by
      rw[← eb,show (c1.natAbs:Int)=c1 by omega,hc1,show b*(q*c1')*e=q*(b*c1'*e) by grind,Int.mul_ediv_cancel_left _ q0]
     rw[d1,d2] at fin
     rwa [show r1'*e-b*c1'*e*x=e*(r1'-c1'*(x*b)) by grind] at fin
    ·rw[if_neg sg] at hτ
     have d1:τ/q=-(r1'*e):=by rw[hτ,hr1,show -(q*r1'*e)=q * -(r1'*e) by grind,Int.mul_ediv_cancel_left _ q0]
     have d2:Bt/q=-(b*c1'*e):=by
      rw[← eb,show (c1.natAbs:Int)=-c1 by omega,hc1,show b * -(q*c1')*e=q * -(b*c1'*e) by grind,Int.mul_ediv_cancel_left _ q0]
     rw[d1,d2] at fin
     have:=Int.dvd_neg.mpr fin
     rwa [show -(-(r1'*e) - -(b*c1'*e)*x)=e*(r1'-c1'*(x*b)) by grind] at this
   have k2:=cop_pow hp qe E key
   have k3:q^E∣r1'-c1'*(x*b%q^E):=by
    have:=Int.dvd_sub k2 (Int.dvd_mul_of_dvd_right (b:=c1') (Lt.vX (x*b) (q^E)))
    rwa [show r1'-c1'*(x*b)-c1'*(x*b%q^E-x*b)=r1'-c1'*(x*b%q^E) by grind] at this
   obtain⟨y,hy⟩:=k3
   refine qm1 ⟨y,Int.eq_of_mul_eq_mul_right (show q^E≠0 by omega) ?_⟩
   have a:r1-c1*(x*b%q^E)=m1*q^E:=by omega
   rw[← a,hr1,hc1]
   have:q*r1'-q*c1'*(x*b%q^E)=q*(r1'-c1'*(x*b%q^E)):=by grind
   rw[this,hy];grind
  ·have qb':q∣b:=by
    rw[Int.mul_comm] at qb
    exact w9 hq qb qc
   refine ih (c1.natAbs*e) (Int.mul_pos c0' (by omega)) (by rw[← Int.mul_assoc];exact eb) (fun d=>qe (w9 hq d qc)) qb' (fun x hx=>tp x (List.mem_append_left _ hx)) (fun z x hx=>ex z x (List.mem_append_left _ hx))
theorem Fra.cop {p:Int}(hp:Pt.Prm p){E:Nat}{H:Int}(HH:2*(H*H)≤p^E)(H0:1≤H){k:Nat}{R:Int→Int→Int}(ci:CI p k R){l:List Int}(ll:l.length=k){b:Int}(h:Fra (p^E) H l b)(bH:b < H){goal left:Int→Int}
  (lf:∀ i:Nat,i < k→(Ld.S k fun t=>R i t*fn l t)+p^E*left i=goal i)(sol:∀ i:Nat,i < k→(Ld.S k fun t=>R i t*cn (fn l t*b) (p^E))=b*goal i) :
  ∀ d:Int,d∣b→(∀ t:Nat,t < k→d∣cn (fn l t*b) (p^E))→d∣1:=fun d db dt=>by
 have HHH:H≤H*H:=by have:=Int.mul_le_mul_of_nonneg_right H0 (show 0≤H by omega);omega
 have b0:=h.pos (by omega)
 have d0:d≠0:=fun z=>by rw[z] at db;have:=Int.zero_dvd.mp db;omega
 by_cases c:d.natAbs=1
 ·exact Int.natAbs_dvd_natAbs.mp (by rw[c];exact Nat.dvd_refl 1)
 ·exfalso
  obtain⟨q,hq,qd'⟩:=Pt.least_prime (n:=(d.natAbs:Int)) (by omega)
  have qd:q∣d:=Int.dvd_natAbs.mp qd'
  have tops:∀ x∈l,∃ t:Nat,t < k∧fn l t=x:=fun x hx=>by
   obtain⟨t,ht,e⟩:=zGa hx
   exact⟨t,by omega,by unfold fn;rw[Int.toNat_natCast];exact e⟩
  refine h.red hp HH H0 bH hq 1 (by decide) (Int.mul_one b) (fun z=>?_) (Int.dvd_trans qd db) (fun x hx=>?_) (fun e=>?_)
  ·have:=Int.le_of_dvd (by decide) z
   have:=hq.1
   omega
  ·obtain⟨t,ht,e⟩:=tops x hx
   rw[← e];exact Int.dvd_trans qd (dt t ht)
  ·subst e
   have q0:q≠0:=by have:=hq.1;omega
   obtain⟨b',hb⟩:=Int.dvd_trans qd db
   have al:=ci.pow (by have:=hq.1;omega) E (y:=fun t=>cn (fn l t*b) (q^E)/q-b'*fn l t) fun i hi=>by
    have e1:q*(Ld.S k fun t=>R i t*(cn (fn l t*b) (q^E)/q-b'*fn l t))=(Ld.S k fun t=>R i t*cn (fn l t*b) (q^E)) + -b*Ld.S k fun t=>R i t*fn l t:=by
     rw[← Ld.vL,← Ld.vL,← Ld.wS]
     refine Ld.zH fun t ht=>?_
     have z:=Int.mul_ediv_cancel' (Int.dvd_trans qd (dt t ht))
     generalize cn (fn l t*b) (q^E)/q=y at *
     rw[← z,hb];grind
    rw[sol i hi] at e1
    have e2:=lf i hi
    refine⟨b'*left i,Int.eq_of_mul_eq_mul_left q0 ?_⟩
    show q*(Ld.S k fun t=>R i t*(cn (fn l t*b) (q^E)/q-b'*fn l t))=_
    rw[e1,← e2,hb];grind
   intro x hx
   obtain⟨t,ht,e⟩:=tops x hx
   have:=al t ht
   rw[← e,show b/q=b' by rw[hb,Int.mul_ediv_cancel_left _ q0]]
   exact this
end Rx
namespace Rx
open Lt (g)
open Mx
structure Sc (p:Int)(k:Nat)(R:Int→Int→Int)(goal:Int→Int)(D B:Nat):Prop where
 hp:Pt.Prm p
 ci:CI p k R
 ex:∃ (x:Int→Int)(s:Int),0 < s∧¬ p∣s∧(∀ i:Nat,i < k→(Ld.S k fun t=>R i t*x t)=s*goal i)∧s≤B∧(∀ t:Nat,t < k→((x t).natAbs:Int)≤B)∧∀ d:Int,d∣s→(∀ t:Nat,t < k→d∣x t)→d∣1
 al:∀ v:Int→Int,La k R fun i=>D*v i
theorem sqr_lt {a b:Int}(a0:0≤a)(b0:0≤b)(h:a*a < b*b):a < b:=by
 rcases Int.lt_or_le a b with c | c
 ·exact c
 ·have:=Int.mul_le_mul c c b0 a0
  omega
section
variable {p:Int}{k D B e:Nat}{R:Int→Int→Int}{goal left:Int→Int}{rests:List Int}{H b:Int}
theorem Sc.great (HH:p^e < 8*(H*H))(H0:1≤H)(gr:128*((B:Int)*B)≤p^e):4*(B:Int)≤H:=by
 have:(4*(B:Int))*(4*B) < H*H:=by
  rw[show (4*(B:Int))*(4*B)=16*(B*B) by grind];omega
 have:=sqr_lt (by omega) (by omega) this
 omega
theorem Sc.none (S:Sc p k R goal D B)(lif:Lif k R goal (p^e) (fn rests) left)(ll:rests.length=k){l1 l2:List Int}(pre:rests=l1 ++ l2)(fr:Fra (p^e) H l1 b)(Hb:H≤b)(H0:1≤H)(HH:2*(H*H)≤p^e)(H8:p^e < 8*(H*H)):p^e < 128*((B:Int)*B):=by
 refine Int.lt_of_not_ge fun gr=>?_
 have p2:=S.hp.1
 obtain⟨x,s,s0,ps,hx,sB,xB,_⟩:=S.ex
 have big:=Sc.great H8 H0 gr
 have le:l1.length≤k:=by rw[← ll,pre,List.length_append];omega
 obtain⟨b0,bs,_⟩:=fr.done S.hp s0 ps sB big (by have:=Int.mul_nonneg (show 0≤H by omega) (show 0≤H by omega);omega) (x:=fun t=>x t) (fun t ht=>by
  have:=lif.rest (by omega) S.ci hx t (by omega)
  unfold fn at this
  rw[Int.toNat_natCast,pre,zDz ht] at this;exact this) (fun t ht=>xB t (by omega))
 have:=Int.le_of_dvd s0 bs
 omega
theorem Sc.not (S:Sc p k R goal D B)(lif:Lif k R goal (p^e) (fn rests) left)(ll:rests.length=k)(fr:Fra (p^e) H rests b)(H0:1≤H)(HH:2*(H*H)≤p^e)(H8:p^e < 8*(H*H))(no:¬ ∀ i:Nat,i < k→(Ld.S k fun t=>R i t*cn (fn rests t*b) (p^e))=b*goal i):p^e < 128*((B:Int)*B):=by
 refine Int.lt_of_not_ge fun gr=>no ?_
 have p2:=S.hp.1
 obtain⟨x,s,s0,ps,hx,sB,xB,one⟩:=S.ex
 have big:=Sc.great H8 H0 gr
 have rs:∀ t:Nat,t < k→p^e∣s*fn rests t-x t:=fun t ht=>lif.rest (by omega) S.ci hx t ht
 obtain⟨b0,bs,al⟩:=fr.done S.hp s0 ps sB big (by have:=Int.mul_nonneg (show 0≤H by omega) (show 0≤H by omega);omega) (x:=fun t=>x t) (fun t ht=>by
  have:=rs t (by omega)
  unfold fn at this
  rwa [Int.toNat_natCast] at this) (fun t ht=>xB t (by omega))
 have eb:=frac_end s0 b0 bs (fun t ht=>al t (by omega)) one
 have HB:(B:Int)*B ≥ B:=by
  have:(1:Int)≤B:=by omega
  have:=Int.mul_le_mul_of_nonneg_right this (show (0:Int)≤B by omega)
  omega
 intro i hi
 rw[eb,← hx i hi]
 refine Ld.zH fun t ht=>?_
 have c:=centre (n:=fn rests t*s) (m:=p^e) (x:=x t) (by omega) (by rw[Int.mul_comm];exact rs t ht) (by have:=xB t ht;omega)
 show R i t*cn (fn rests t*s) (p^e)=R i t*x t
 unfold cn
 rw[c]
theorem Sc.bot (S:Sc p k R goal D B)(lif:Lif k R goal (p^e) (fn rests) left)(ll:rests.length=k)(fr:Fra (p^e) H rests b)(bH:b < H)(H0:1≤H)(HH:2*(H*H)≤p^e)(sol:∀ i:Nat,i < k→(Ld.S k fun t=>R i t*cn (fn rests t*b) (p^e))=b*goal i):b∣D:=by
 obtain⟨y,hy⟩:=S.al goal
 have HHH:H≤H*H:=by have:=Int.mul_le_mul_of_nonneg_right H0 (show 0≤H by omega);omega
 exact (bot_dvd S.hp.1 S.ci (fr.pos (by omega)) hy sol (fr.cop S.hp HH H0 S.ci ll bH lif.eq sol)).1
end
theorem dot_mt {rows:List (List Int)}{k i:Nat}{x:List Int}(lr:rows.length=k)(lw:∀ row∈rows,row.length=k)(hi:i < k)(lx:x.length=k):dot (rows.getD i []) x=Ld.S k fun t=>mt rows i t*fn x t:=by
 rw[zAr (lw _ (vZ (by omega))) lx]
 refine Ld.zH fun t _=>?_
 unfold mt fn
 rw[Int.toNat_natCast,Int.toNat_natCast]
theorem left_bd {k:Nat}{R:Int→Int→Int}{goal left r:Int→Int}{sc:Int}{C G:Nat}(s1:1≤sc)(lif:Lif k R goal sc r left)(hR:∀ i t:Nat,i < k→t < k→(R i t).natAbs≤C)(hg:∀ i:Nat,i < k→(goal i).natAbs≤G)(i:Nat)(hi:i < k):(left i).natAbs≤G+k*C:=by
 have e:=lif.eq i hi
 have b:=Mx.S_bd (F:=fun t=>R i t*r t) (B:=C*sc) (k:=k) fun t ht=>by
  have a:=hR i t hi ht
  have c:=lif.rg t ht
  rw[Int.natAbs_mul,Int.natCast_mul]
  exact Int.mul_le_mul (by omega) (by omega) (by omega) (by omega)
 have n:sc*(left i).natAbs≤G+k*(C*sc):=by
  have g1:=hg i hi
  have:sc*(left i).natAbs=((sc*left i).natAbs:Int):=by rw[Int.natAbs_mul,Int.natCast_mul];congr 1;omega
  rw[this,show sc*left i=goal i-Ld.S k fun t=>R i t*r t by omega]
  omega
 have q:sc*(left i).natAbs≤sc*(G+k*C:Nat):=by
  have g2:=Int.mul_le_mul_of_nonneg_right s1 (show (0:Int)≤G by omega)
  rw[Int.natCast_add,Int.natCast_mul,Int.mul_add]
  have:sc*((k:Int)*C)=k*(C*sc):=by grind
  omega
 have:=Int.le_of_mul_le_mul_left q (by omega)
 omega
theorem lif_list {m:Int}(hm:1≤m){k:Nat}{rows us:List (List Int)}{goal:Int→Int}{sc:Int}(hs:1≤sc){rests left:List Int}(lr:rows.length=k)(lw:∀ row∈rows,row.length=k)(lu:us.length=k)(lv:∀ row∈us,row.length=k)(l1:rests.length=k)(l2:left.length=k)
  (ri:RI m k (mt rows) (mt us))(h:Lif k (mt rows) goal sc (fn rests) (fn left)){more:List Int}(em:more=us.map fun u=>dot u left%m) :
  Lif k (mt rows) goal (sc*m) (fn (List.zipWith (fun r y=>r+sc*y) rests more)) (fn (List.zipWith (fun row x=>(x-dot row more)/m) rows left)):=by
 have lm:more.length=k:=by rw[em,List.length_map,lu]
 have mg:∀ t:Nat,t < k→fn more t=(Ld.S k fun j=>mt us t j*fn left j)%m:=fun t ht=>by
  rw[← dot_mt lu lv ht l2]
  unfold fn
  rw[Int.toNat_natCast]
  exact wH (by rw[em,List.getElem?_map,wD (by omega)];rfl)
 have st:=h.step hm ri hs (more:=fn more) (zAm:=fn (List.zipWith (fun row x=>(x-dot row more)/m) rows left)) mg fun i hi=>by
  rw[← dot_mt lr lw hi lm]
  unfold fn
  rw[Int.toNat_natCast]
  exact wH (by rw[List.getElem?_zipWith,wD (by omega),wI (by omega)])
 refine⟨fun i hi=>?_,fun t ht=>?_⟩
 ·rw[← st.eq i hi]
  congr 1
  refine Ld.zH fun t ht=>?_
  congr 1
  unfold fn
  rw[Int.toNat_natCast,g_zip (by omega) (by omega)]
 ·have a:=st.rg t ht
  unfold fn at a ⊢
  rw[Int.toNat_natCast] at a ⊢
  rw[g_zip (by omega) (by omega)];exact a
end Rx
namespace Rx
open Lt (g)
open Mx
def vE (fs:List Fd):List Nat:=fs.map fun f=>f.2.1
def numsOf (fs:List Fd):List Nat:=fs.map fun f=>f.1
def rowsOf (steps:List (List Int))(fs:List Fd):List (List Int):=fs.map fun f=>(vE fs).map fun c=>g (steps.getD f.1 []) c
theorem Ind.cong {p:Int}{k:Nat}{M M':Int→Int→Int}(h:Ind p k M)(e:∀ s t:Nat,s < k→t < k→M s t=M' s t):Ind p k M':=fun y hy=>h y fun t ht=>by
 have:=hy t ht
 rwa [Ld.zH (G:=fun s=>y s*M s t) fun s hs=>by rw[e s t hs ht]] at this
theorem La.cong {k:Nat}{M M':Int→Int→Int}{v:Int→Int}(h:La k M v)(e:∀ s t:Nat,s < k→t < k→M s t=M' s t):La k M' v:=by
 obtain⟨x,hx⟩:=h
 exact⟨x,fun i hi=>by rw[← hx i hi];exact Ld.zH fun t ht=>by rw[e i t hi ht]⟩
theorem CI.cong {p:Int}{k:Nat}{M M':Int→Int→Int}(h:CI p k M)(e:∀ s t:Nat,s < k→t < k→M s t=M' s t):CI p k M':=fun y hy=>h y fun i hi=>by
 have:=hy i hi
 rwa [Ld.zH (G:=fun t=>M i t*y t) fun t ht=>by rw[e i t hi ht]] at this
theorem wG {steps:List (List Int)}{fs:List Fd}:(rowsOf steps fs).length=fs.length∧∀ row∈rowsOf steps fs,row.length=fs.length:=by
 refine⟨by unfold rowsOf;rw[List.length_map],fun row h=>?_⟩
 unfold rowsOf at h
 obtain⟨f,_,rfl⟩:=List.mem_map.mp h
 rw[List.length_map];unfold vE;rw[List.length_map]
theorem zFf {steps:List (List Int)}{fs:List Fd}{i j:Nat}(hi:i < fs.length)(hj:j < fs.length):mt (rowsOf steps fs) i j=st steps (nm fs i) (cl fs j):=by
 rw[zHf]
 have e:(rowsOf steps fs)[i]?=some ((vE fs).map fun c=>g (steps.getD (fs.getD i (0,0,[])).1 []) c):=by
  unfold rowsOf
  rw[List.getElem?_map,List.getElem?_eq_getElem hi,getD_at (List.getElem?_eq_getElem hi)];rfl
 rw[getR e]
 unfold st nm cl
 rw[Int.toNat_natCast]
 refine wH ?_
 unfold vE
 rw[List.getElem?_map,List.getElem?_map,List.getElem?_eq_getElem hj,getD_at (List.getElem?_eq_getElem hj)];rfl
theorem flp_len {k:Nat}{rows:List (List Int)}(lr:rows.length=k):(flp k rows).length=k∧∀ row∈flp k rows,row.length=k:=by
 refine⟨by unfold flp;rw[List.length_map,List.length_range],fun row h=>?_⟩
 unfold flp at h
 obtain⟨c,_,rfl⟩:=List.mem_map.mp h
 rw[List.length_map,lr]
theorem zGx {k:Nat}{rows:List (List Int)}(lr:rows.length=k){i j:Nat}(hi:i < k)(hj:j < k):mt (flp k rows) i j=mt rows j i:=by
 rw[zHf,zHf]
 have e:(flp k rows)[i]?=some (rows.map fun row=>g row i):=by
  unfold flp
  rw[List.getElem?_map,List.getElem?_range hi];rfl
 rw[getR e]
 exact wH (by rw[List.getElem?_map,wD (by omega)];rfl)
structure Frm (p:Int)(w:Nat)(steps:List (List Int))(fs:List Fd)(us:List (List Int))(D C:Nat):Prop where
 hp:Pt.Prm p
 crn:Crn p w steps steps.length fs
 ul:us.length=fs.length
 uw:∀ u∈us,u.length=fs.length
 li:LI (p^16) fs.length (mt us) (mt (rowsOf steps fs))
 C1:1≤C
 bd:∀ (j c:Nat),j < steps.length→c < w→(st steps j c).natAbs≤C
 D1:1≤D
 Db:D≤(2*(fs.length*C)+1)^fs.length
 al1:∀ v:Int→Int,La fs.length (mt (flp fs.length (rowsOf steps fs))) fun i=>D*v i
 al2:∀ v:Int→Int,La fs.length (mt (rowsOf steps fs)) fun i=>D*v i
theorem Crn.ind {p:Int}{w:Nat}{steps:List (List Int)}{n:Nat}{fs:List Fd}(h:Crn p w steps n fs)(c:Nat)(hc:c≤fs.length):Ind p c (mt (rowsOf steps fs)) :=
 Ind.cong (h.cor.ind c hc) fun s t hs ht=>by rw[zFf (by omega) (by omega),Int.toNat_natCast,Int.toNat_natCast]
theorem Crn.numn {p:Int}{w:Nat}{steps:List (List Int)}{n:Nat}{fs:List Fd}(h:Crn p w steps n fs){t:Nat}(ht:t < fs.length):nm fs t < n:=h.fr.numn t ht
theorem rows_bd {p:Int}{w:Nat}{steps:List (List Int)}{fs:List Fd}{C:Nat}(h:Crn p w steps steps.length fs)(bd:∀ (j c:Nat),j < steps.length→c < w→(st steps j c).natAbs≤C)(i t:Nat)(hi:i < fs.length)(ht:t < fs.length):(mt (rowsOf steps fs) i t).natAbs≤C:=by
 rw[zFf hi ht];exact bd _ _ (h.numn hi) (h.cor.colw t ht)
theorem Frm.mk' {p:Int}(hp:Pt.Prm p){w:Nat}{steps:List (List Int)}{fs:List Fd}{us:List (List Int)}{C:Nat}(crn:Crn p w steps steps.length fs)(ul:us.length=fs.length)(uw:∀ u∈us,u.length=fs.length)(li:LI (p^16) fs.length (mt us) (mt (rowsOf steps fs)))(C1:1≤C)
  (bd:∀ (j c:Nat),j < steps.length→c < w→(st steps j c).natAbs≤C):∃ D,Frm p w steps fs us D C:=by
 obtain⟨D,D1,Db,a1,a2⟩:=both hp C1 (crn.ind _ (Nat.le_refl _)) (rows_bd crn bd)
 exact⟨D,hp,crn,ul,uw,li,C1,bd,D1,Db,fun v=>La.cong (a1 v) fun s t hs ht=>(zGx wG.1 hs ht).symm,a2⟩
section
variable {p:Int}{w:Nat}{steps:List (List Int)}{fs:List Fd}{us:List (List Int)}{D C G B:Nat}
theorem Frm.ci1 (F:Frm p w steps fs us D C):CI p fs.length (mt (flp fs.length (rowsOf steps fs))):=CI.cong (F.crn.ind _ (Nat.le_refl _)).ci fun s t hs ht=>(zGx wG.1 hs ht).symm
theorem pdvd (p:Int):p∣p^16:=⟨p^15,by rw[← Int.pow_succ']⟩
theorem Frm.ci2 (F:Frm p w steps fs us D C):CI p fs.length (mt (rowsOf steps fs)):=F.li.ci (pdvd p)
theorem Frm.ri1 (F:Frm p w steps fs us D C):RI (p^16) fs.length (mt (flp fs.length (rowsOf steps fs))) (mt (flp fs.length us)):=fun i j hi hj=>by
 have a:=F.li j i hj hi
 have e:(Ld.S fs.length fun t=>mt (flp fs.length (rowsOf steps fs)) i t*mt (flp fs.length us) t j)=Ld.S fs.length fun t=>mt us j t*mt (rowsOf steps fs) t i:=Ld.zH fun t ht=>by
  rw[zGx wG.1 hi ht,zGx F.ul ht hj,Int.mul_comm]
 rw[e]
 by_cases c:i=j
 ·rw[if_pos c];rwa [if_pos c.symm] at a
 ·rw[if_neg c];rwa [if_neg (fun z=>c z.symm)] at a
theorem Frm.ri2 (F:Frm p w steps fs us D C):RI (p^16) fs.length (mt (rowsOf steps fs)) (mt us):=F.li.right (by have:=F.hp.1;omega) (F.crn.ind _ (Nat.le_refl _))
theorem sc_of {p:Int}(hp:Pt.Prm p){k:Nat}{R:Int→Int→Int}{goal:Int→Int}(ci:CI p k R)(C1:1≤C)(hR:∀ i t:Nat,i < k→t < k→(R i t).natAbs≤C)(hg:∀ i:Nat,i < k→(goal i).natAbs≤G)(D1:1≤D)(al:∀ v:Int→Int,La k R fun i=>D*v i)(DB:D≤B)(big:k*(D*(Sg.bnd k C*G))≤B):Sc p k R goal D B:=by
 obtain⟨x,s,s0,ps,hx,sd,xb,one⟩:=sol2 hp C1 ci hR hg D1 al
 refine⟨hp,ci,⟨x,s,s0,ps,hx,?_,fun t ht=>?_,one⟩,al⟩
 ·have:=Int.le_of_dvd (by omega) sd
  omega
 ·have:=xb t ht
  omega
theorem Frm.sc1 (F:Frm p w steps fs us D C){goal:Int→Int}(hg:∀ i:Nat,i < fs.length→(goal i).natAbs≤G)(DB:D≤B)(big:fs.length*(D*(Sg.bnd fs.length C*G))≤B):Sc p fs.length (mt (flp fs.length (rowsOf steps fs))) goal D B :=
 sc_of F.hp F.ci1 F.C1 (fun i t hi ht=>by rw[zGx wG.1 hi ht];exact rows_bd F.crn F.bd t i ht hi) hg F.D1 F.al1 DB big
theorem Frm.sc2 (F:Frm p w steps fs us D C){goal:Int→Int}(hg:∀ i:Nat,i < fs.length→(goal i).natAbs≤G)(DB:D≤B)(big:fs.length*(D*(Sg.bnd fs.length C*G))≤B):Sc p fs.length (mt (rowsOf steps fs)) goal D B :=
 sc_of F.hp F.ci2 F.C1 (rows_bd F.crn F.bd) hg F.D1 F.al2 DB big
end
theorem Crn.cols_nd {p:Int}(hp:Pt.Prm p){w:Nat}{steps:List (List Int)}{n:Nat}{fs:List Fd}(h:Crn p w steps n fs):(vE fs).Nodup:=by
 unfold vE
 refine List.pairwise_iff_getElem.mpr fun i j hi hj lt e=>?_
 rw[List.length_map] at hi hj
 rw[List.getElem_map,List.getElem_map] at e
 have ci:cl fs i=fs[i].2.1:=by unfold cl;rw[getD_at (List.getElem?_eq_getElem hi)]
 have cj:cl fs j=fs[j].2.1:=by unfold cl;rw[getD_at (List.getElem?_eq_getElem hj)]
 have z:=h.cor.zero i j lt hj
 have o:=h.cor.one j hj
 rw[ci,e,← cj] at z
 have:=Int.dvd_sub z o
 rw[show ∀ a:Int,a-(a-1)=1 from fun a=>by omega] at this
 have:=Int.le_of_dvd (by decide) this
 have:=hp.1
 omega
theorem Crn.nums_nd {p:Int}{w:Nat}{steps:List (List Int)}{n:Nat}{fs:List Fd}(h:Crn p w steps n fs):(numsOf fs).Nodup:=by
 unfold numsOf
 exact List.Pairwise.map _ (fun a b (e:a.1 < b.1)=>Nat.ne_of_lt e) h.srt
theorem cols_at {fs:List Fd}{t:Nat}(ht:t < fs.length):(vE fs)[t]?=some (cl fs t):=by
 unfold vE cl
 rw[List.getElem?_map,List.getElem?_eq_getElem ht,List.getD_eq_getElem?_getD,List.getElem?_eq_getElem ht];rfl
theorem nums_at {fs:List Fd}{t:Nat}(ht:t < fs.length):(numsOf fs)[t]?=some (nm fs t):=by
 unfold numsOf nm
 rw[List.getElem?_map,List.getElem?_eq_getElem ht,List.getD_eq_getElem?_getD,List.getElem?_eq_getElem ht];rfl
theorem jC {p:Int}{w:Nat}{steps:List (List Int)}{n:Nat}{fs:List Fd}(h:Crn p w steps n fs):∀ c∈vE fs,c < w:=fun c hc=>by
 unfold vE at hc
 obtain⟨f,hf,rfl⟩:=List.mem_map.mp hc
 exact (h.rok f hf).2.2
theorem nums_lt {p:Int}{w:Nat}{steps:List (List Int)}{n:Nat}{fs:List Fd}(h:Crn p w steps n fs):∀ c∈numsOf fs,c < n:=fun c hc=>by
 unfold numsOf at hc
 obtain⟨f,hf,rfl⟩:=List.mem_map.mp hc
 exact h.lt f hf
end Rx
namespace Rx
open Lt
def rwf (rows:List (List Int)):Nat→Int→Int:=fun j i=>g (rows.getD j []) i.toNat
theorem Rec.cong {m:Int}{k r:Nat}{row:Nat→Int→Int}{G G':Int→Int}{v:List Int}(h:Rec m k r row G v)(e:∀ i:Nat,i < k→m∣G i-G' i):Rec m k r row G' v:=fun i hi=>by
 have:=Int.dvd_add (h i hi) (e i hi)
 rwa [show ∀ a b c d:Int,a-(b+c)+(b-d)=a-(d+c) from fun a b c d=>by omega] at this
theorem Ent.rec {m:Int}{K k r:Nat}(hK:k+r≤K){row:Nat→Int→Int}:∀ {c:Nat}{ls:List (List Int)}{left:List Int}{ls':List (List Int)},Ent m c ls left ls'→(∀ l∈ls,l.length=K)→left.length=K→(∀ l∈ls,Rec m k r row (fun _=>0) l)→Rec m k r row (fun _=>0) left→∀ l∈ls',Rec m k r row (fun _=>0) l:=by
 intro c ls left ls' h
 induction h with
 | nil=>intro _ _ _ _ l hl;cases hl
 | @skip c l left ls ls' z _ ih =>
  intro ll lf rl rf x hx
  rcases List.mem_cons.mp hx with e | e
  ·rw[e];exact rl l List.mem_cons_self
  ·exact ih (fun y hy=>ll y (List.mem_cons_of_mem _ hy)) lf (fun y hy=>rl y (List.mem_cons_of_mem _ hy)) rf x e
 | @mix c l left ls ls' α β G nz G1 d1 d2 e _ ih =>
  intro ll lf rl rf x hx
  have l1:=ll l List.mem_cons_self
  have r1:=rl l List.mem_cons_self
  rcases List.mem_cons.mp hx with e' | e'
  ·rw[e']
   exact Rec.cong (Rec.mix l1 lf r1 rf α β) fun i _=>by rw[Int.mul_zero,Int.mul_zero];exact Int.dvd_zero _
  ·refine ih (fun y hy=>ll y (List.mem_cons_of_mem _ hy)) (zFi lf l1 ..) (fun y hy=>rl y (List.mem_cons_of_mem _ hy)) ?_ x e'
   exact Rec.cong (Rec.mix lf l1 rf r1 _ _) fun i _=>by rw[Int.mul_zero,Int.mul_zero];exact Int.dvd_zero _
def Up (m:Int)(l:List Int):Prop:=∀ x∈l,0≤x∧x≤m
theorem mix_in {m:Int}(m0:0 < m)(one:List Int)(a:Int)(other:List Int)(b:Int):In m (mix one a other b m):=In.zip m0 one other fun x y=>x*a+y*b
theorem In.up {m:Int}{l:List Int}(h:In m l):Up m l:=fun x hx=>⟨(h x hx).1,Int.le_of_lt (h x hx).2⟩
theorem Ent.up {m:Int}(m0:0 < m):∀ {c:Nat}{ls:List (List Int)}{left:List Int}{ls':List (List Int)},Ent m c ls left ls'→(∀ l∈ls,Up m l)→∀ l∈ls',Up m l:=by
 intro c ls left ls' h
 induction h with
 | nil=>intro _ l hl;cases hl
 | @skip c l left ls ls' z _ ih =>
  intro ll x hx
  rcases List.mem_cons.mp hx with e | e
  ·rw[e];exact ll l List.mem_cons_self
  ·exact ih (fun y hy=>ll y (List.mem_cons_of_mem _ hy)) x e
 | @mix c l left ls ls' α β G nz G1 d1 d2 e _ ih =>
  intro ll x hx
  rcases List.mem_cons.mp hx with e' | e'
  ·rw[e'];exact In.up (mix_in m0 l α left β)
  ·exact ih (fun y hy=>ll y (List.mem_cons_of_mem _ hy)) x e'
structure Lds (m:Int)(k r:Nat)(rows:List (List Int))(j:Nat)(ls:List (List Int)):Prop where
 tri:Tri m (k+r) 0 ls
 len:ls.length=k
 how:How m k 0 ls
 kill:∀ a:Int→Int,Kill m k a ls→∀ i,i < j→m∣dt k (rows.getD i []) a
 rc:∀ l∈ls,Rec m k r (rwf rows) (fun _=>0) l
 up:∀ l∈ls,Up m l
def ls0 (m:Int)(k r:Nat):List (List Int):=(List.range k).map fun c=>hun (k+r) c m
theorem tri_of {m:Int}{K:Nat}:∀ {c:Nat}{ls:List (List Int)},(∀ (i:Nat)(l:List Int),ls[i]?=some l→l.length=K∧(∀ j,j < c+i→g l j=0)∧1≤g l (c+i)∧g l (c+i)∣m)→Tri m K c ls
 | _,[],_=>trivial
 | c,l::ls,h=>⟨h 0 l rfl,tri_of (c:=c+1) fun i x e=>by
   have:=h (i+1) x (by rw[List.getElem?_cons_succ];exact e)
   rwa [show c+(i+1)=c+1+i by omega] at this⟩
theorem how_of {m:Int}{k:Nat}:∀ {c:Nat}{ls:List (List Int)},(∀ (i:Nat)(l:List Int),ls[i]?=some l→∀ a:Int→Int,m∣m/g l (c+i)*dt k l a)→How m k c ls
 | _,[],_=>trivial
 | c,l::ls,h=>⟨fun a _=>h 0 l rfl a,how_of (c:=c+1) fun i x e=>by
   have:=h (i+1) x (by rw[List.getElem?_cons_succ];exact e)
   rwa [show c+(i+1)=c+1+i by omega] at this⟩
theorem Lds.start {m:Int}(m1:1≤m)(k r:Nat)(rows:List (List Int)):Lds m k r rows 0 (ls0 m k r):=by
 have at_:∀ (i:Nat)(l:List Int),(ls0 m k r)[i]?=some l→i < k∧l=hun (k+r) i m:=fun i l h=>by
  unfold ls0 at h
  rw[List.getElem?_map] at h
  rcases Nat.lt_or_ge i k with c | c
  ·rw[List.getElem?_range c] at h
   exact⟨c,(Option.some.inj h).symm⟩
  ·rw[List.getElem?_eq_none (by rw[List.length_range];exact c)] at h;cases h
 have mem:∀ l∈ls0 m k r,∃ i,i < k∧l=hun (k+r) i m:=fun l hl=>by
  obtain⟨i,hi⟩:=List.getElem?_of_mem hl
  exact⟨i,at_ i l hi⟩
 refine⟨tri_of fun i l h=>?_,by unfold ls0;rw[List.length_map,List.length_range],how_of fun i l h a=>?_,fun _ _ i hi=>absurd hi (Nat.not_lt_zero _),fun l hl i hi=>?_,fun l hl x hx=>?_⟩
 ·obtain⟨ik,rfl⟩:=at_ i l h
  refine⟨zAa ..,fun j hj=>by rw[zBu (by omega),if_neg (by omega)],?_,?_⟩
  ·rw[zBu (by omega),if_pos (by omega)];exact m1
  ·rw[zBu (by omega),if_pos (by omega)];exact Int.dvd_refl _
 ·obtain⟨ik,rfl⟩:=at_ i l h
  rw[zBu (by omega),if_pos (by omega),Int.ediv_self (by omega),Int.one_mul]
  unfold dt
  refine Mx.S_dvd fun t _=>?_
  rw[Int.toNat_natCast,zBu (by omega)]
  split
  ·exact Int.dvd_mul_right ..
  ·rw[Int.zero_mul];exact Int.dvd_zero _
 ·obtain⟨c,hc,rfl⟩:=mem l hl
  rw[zBu (by omega)]
  have z:(Ld.S r fun j=>g (hun (k+r) c m) (k+j.toNat)*rwf rows j.toNat i)=0:=by
   rw[Ld.zH (G:=fun _=>0) fun j _=>by rw[zBu (by omega),if_neg (by omega),Int.zero_mul],Ld.jA]
  rw[z,Int.add_zero,Int.sub_zero]
  split
  ·exact Int.dvd_refl _
  ·exact Int.dvd_zero _
 ·obtain⟨c,hc,rfl⟩:=mem l hl
  obtain⟨j,hj,rfl⟩:=zGa hx
  rw[zBu (by omega)]
  split <;> omega
theorem Lds.enter {m:Int}(m1:1≤m){k r:Nat}{rows:List (List Int)}(lr:rows.length=r)(lw:∀ row∈rows,row.length=k){j:Nat}(hj:j < r){ls ls':List (List Int)}(h:Lds m k r rows j ls)(e:Ent m 0 ls ((rows.getD j [] ++ hun r j 1).map fun x=>x%m) ls'):Lds m k r rows (j+1) ls':=by
 have lj:(rows.getD j []).length=k:=lw _ (vZ (by omega))
 obtain⟨left,hl⟩:∃ left:List Int,left=(rows.getD j [] ++ hun r j 1).map fun x=>x%m:=⟨_,rfl⟩
 rw[← hl] at e
 have ll:left.length=k+r:=by rw[hl,List.length_map,List.length_append,lj,zAa]
 have la:(rows.getD j [] ++ hun r j 1).length=k+r:=by rw[List.length_append,lj,zAa]
 have gl:∀ i,i < k+r→g left i=g (rows.getD j [] ++ hun r j 1) i%m:=fun i hi=>by rw[hl];exact zEe (by rw[la];exact hi)
 have lf:Lf m (k+r) 0 left:=⟨ll,fun i hi=>absurd hi (Nat.not_lt_zero _),fun i=>by
  have:In m left:=by rw[hl];exact In.mod (by omega) _ fun x=>x
  exact this.g (by omega) i⟩
 have t:=e.tri m1 h.tri lf
 have lens:∀ l∈ls,l.length=k+r:=fun l hl=>by
  obtain⟨i,hi⟩:=List.getElem?_of_mem hl
  exact (h.tri.at hi).1
 refine⟨t.1,by rw[t.2,h.len],e.how m1 h.tri lf (by rw[h.len,Nat.zero_add]) h.how,fun a ka i hi=>?_,Ent.rec (Nat.le_refl _) e lens ll h.rc ?_,Ent.up (by omega) e h.up⟩
 ·have kk:=e.kill m1 a h.tri lf (by rw[h.len,Nat.zero_add]) ka
  rcases Nat.lt_succ_iff_lt_or_eq.mp hi with q | q
  ·exact h.kill a kk.1 i q
  ·rw[q]
   refine (jI ?_).mp kk.2
   unfold dt
   refine jV fun t ht=>?_
   rw[Int.toNat_natCast,gl t (by omega),zDz (by omega),← Int.sub_mul]
   exact Int.dvd_mul_of_dvd_left (vX _ _)
 ·intro i hi
  have a:m∣g left i-rwf rows j i:=by
   unfold rwf
   rw[Int.toNat_natCast,gl i (by omega),zDz (by omega)];exact vX _ _
  have b:m∣(Ld.S r fun j'=>g left (k+j'.toNat)*rwf rows j'.toNat i)-Ld.S r fun j'=>rwf rows j'.toNat i*if j'=(j:Int) then 1 else 0:=jV fun t ht=>by
   rw[Int.toNat_natCast,gl (k+t) (by omega),g_app2 lj,zBu hj]
   by_cases c:t=j
   ·rw[if_pos c,if_pos (by omega)]
    have:=Int.dvd_mul_of_dvd_left (c:=rwf rows t i) (vX 1 m)
    rw[Int.sub_mul,Int.one_mul] at this
    rwa [Int.mul_one]
   ·rw[if_neg c,if_neg (by omega),Int.zero_emod,Int.zero_mul,Int.mul_zero];exact Int.dvd_zero _
  rw[Mx.wC (F:=fun j'=>rwf rows j'.toNat i) hj,Int.toNat_natCast] at b
  have:=Int.dvd_sub a b
  rwa [show ∀ x y z:Int,x-y-(z-y)=x-(0+z) from fun x y z=>by omega] at this
structure Gl (m:Int)(k r:Nat)(rows:List (List Int))(goal:List Int)(ls:List (List Int))(c:Nat)(left:List Int):Prop where
 len:left.length=k+r
 zero:∀ i,i < c→g left i=0
 rc:Rec m k r (rwf rows) (fn goal) left
 dd:∀ a:Int→Int,Kill m k a ls→m∣dt k left a-dt k goal a
theorem Gl.start {m:Int}{k r:Nat}{rows:List (List Int)}{goal:List Int}(lg:goal.length=k)(ls:List (List Int)):Gl m k r rows goal ls 0 (goal ++ List.replicate r 0):=by
 refine⟨by rw[List.length_append,lg,List.length_replicate],fun i hi=>absurd hi (Nat.not_lt_zero _),fun i hi=>?_,fun a _=>?_⟩
 ·have z:(Ld.S r fun j=>g (goal ++ List.replicate r 0) (k+j.toNat)*rwf rows j.toNat i)=0:=by
   rw[Ld.zH (G:=fun _=>0) fun j hj=>by rw[Int.toNat_natCast,g_app2 lg,g_rep hj,Int.zero_mul],Ld.jA]
  rw[z]
  unfold fn
  rw[Int.toNat_natCast,zDz (by omega),Int.add_zero,Int.sub_self];exact Int.dvd_zero _
 ·have:dt k (goal ++ List.replicate r 0) a=dt k goal a:=Ld.zH fun i hi=>by rw[Int.toNat_natCast,zDz (by omega)]
  rw[this,Int.sub_self];exact Int.dvd_zero _
theorem Gl.step {m:Int}(m1:1≤m){k r:Nat}{rows:List (List Int)}{goal:List Int}{j:Nat}{ls:List (List Int)}(L:Lds m k r rows j ls){c:Nat}{left:List Int}(h:Gl m k r rows goal ls c left){l:List Int}(hl:ls[c]?=some l)(dv:g l c∣g left c):Gl m k r rows goal ls (c+1) (les left (g left c/g l c) l m):=by
 have t:=L.tri.at hl
 rw[Nat.zero_add] at t
 have ck:c < k:=by rw[← L.len];exact (List.getElem?_eq_some_iff.mp hl).1
 have el:left.length=l.length:=by rw[h.len,t.1]
 have gd:∀ i,i < k+r→m∣g (les left (g left c/g l c) l m) i-(g left i-g left c/g l c*g l i):=fun i hi=>les_dvd el (by rw[h.len];exact hi)
 have ex:g left c/g l c*g l c=g left c:=Int.ediv_mul_cancel dv
 refine⟨by rw[les_len el,h.len],fun i hi=>?_,fun i hi=>?_,fun a ka=>?_⟩
 ·have zz:g left i-g left c/g l c*g l i=0:=by
   rcases Nat.lt_succ_iff_lt_or_eq.mp hi with q | q
   ·rw[h.zero i q,t.2.1 i (by omega),Int.mul_zero];rfl
   ·rw[q,ex,Int.sub_self]
  unfold les
  by_cases z:g left c/g l c=0
  ·rw[if_pos z];rw[z,Int.zero_mul,Int.sub_zero] at zz;exact zz
  ·rw[if_neg z,g_zip (by rw[h.len];omega) (by rw[t.1];omega),zz,Int.zero_emod]
 ·have r1:=h.rc i hi
  have r2:=L.rc l (List.mem_of_getElem? hl) i hi
  obtain⟨q,hq⟩:∃ q,q=g left c/g l c:=⟨_,rfl⟩
  rw[← hq] at gd ⊢
  have s1:m∣(Ld.S r fun j=>g (les left q l m) (k+j.toNat)*rwf rows j.toNat i)-Ld.S r fun j=>(g left (k+j.toNat)-q*g l (k+j.toNat))*rwf rows j.toNat i:=jV fun t ht=>by
   rw[Int.toNat_natCast,← Int.sub_mul]
   exact Int.dvd_mul_of_dvd_left (gd (k+t) (by omega))
  have s2:(Ld.S r fun j=>(g left (k+j.toNat)-q*g l (k+j.toNat))*rwf rows j.toNat i)=(Ld.S r fun j=>g left (k+j.toNat)*rwf rows j.toNat i) + -q*Ld.S r fun j=>g l (k+j.toNat)*rwf rows j.toNat i:=by
   rw[← Ld.vL,← Ld.wS];exact Ld.zH fun j _=>by grind
  rw[s2] at s1
  have a:=gd i (by omega)
  have b:=Int.dvd_mul_of_dvd_right (b:=q) r2
  have:=Int.dvd_sub (Int.dvd_sub (Int.dvd_add a r1) b) s1
  generalize (Ld.S r fun j=>g (les left q l m) (k+j.toNat)*rwf rows j.toNat i)=X at *
  generalize (Ld.S r fun j=>g left (k+j.toNat)*rwf rows j.toNat i)=Y at *
  generalize (Ld.S r fun j=>g l (k+j.toNat)*rwf rows j.toNat i)=Z at *
  rwa [show g (les left q l m) i-(g left i-q*g l i)+(g left i-(fn goal i+Y))-q*(g l i-(0+Z))-(X-(Y + -q*Z))=g (les left q l m) i-(fn goal i+X) by grind] at this
 ·obtain⟨q,hq⟩:∃ q,q=g left c/g l c:=⟨_,rfl⟩
  rw[← hq] at gd ⊢
  have s1:m∣dt k (les left q l m) a-(dt k left a-q*dt k l a):=by
   have e:dt k left a-q*dt k l a=Ld.S k fun i=>(g left i.toNat-q*g l i.toNat)*a i:=by
    have:(Ld.S k fun i=>(g left i.toNat-q*g l i.toNat)*a i)=dt k left a + -q*dt k l a:=by
     unfold Lt.dt
     rw[← Ld.vL,← Ld.wS];exact Ld.zH fun i _=>by grind
    rw[this];grind
   rw[e]
   unfold Lt.dt
   refine jV fun i hi=>?_
   rw[Int.toNat_natCast,← Int.sub_mul]
   exact Int.dvd_mul_of_dvd_left (gd i (by omega))
  have b:=Int.dvd_mul_of_dvd_right (b:=q) (ka l (List.mem_of_getElem? hl))
  have:=Int.dvd_sub (Int.dvd_add s1 (h.dd a ka)) b
  rwa [show ∀ x y z u:Int,x-(y-z)+(y-u)-z=x-u from fun x y z u=>by omega] at this
theorem Gl.end {m:Int}(m1:1≤m){k r:Nat}{rows:List (List Int)}{goal:List Int}{ls:List (List Int)}{left:List Int}(h:Gl m k r rows goal ls k left){tk:Nat→Int}(ht:∀ j,j < r→m∣tk j+g left (k+j))(i:Nat)(hi:i < k):m∣g goal i-Ld.S r fun j=>tk j.toNat*rwf rows j.toNat i:=by
 have a:=h.rc i hi
 rw[h.zero i hi] at a
 have b:m∣(Ld.S r fun j=>tk j.toNat*rwf rows j.toNat i)-Ld.S r fun j=>-(g left (k+j.toNat))*rwf rows j.toNat i:=jV fun j hj=>by
  rw[Int.toNat_natCast,← Int.sub_mul,Int.sub_neg]
  exact Int.dvd_mul_of_dvd_left (ht j hj)
 have c:(Ld.S r fun j=>-(g left (k+j.toNat))*rwf rows j.toNat i)=-1*Ld.S r fun j=>g left (k+j.toNat)*rwf rows j.toNat i:=by
  rw[← Ld.vL];exact Ld.zH fun j _=>by grind
 rw[c] at b
 have d:=Int.dvd_neg.mpr a
 have:=Int.dvd_sub d b
 unfold fn at this
 rw[Int.toNat_natCast] at this
 rwa [show ∀ x y z:Int,-(0-(x+y))-(z - -1*y)=x-z from fun x y z=>by omega] at this
end Rx
namespace Rx
open Lt
theorem Bar.cong {m:Int}{k col:Nat}{ls:List (List Int)}{j:Nat}{a a':Int→Int}(h:Bar m k col ls j a)(e:∀ i:Nat,a i=a' i):Bar m k col ls j a':=by
 refine⟨fun i hi=>by rw[← e];exact h.lo i hi,fun i hi=>by rw[← e];exact h.hi i hi,fun l hl=>by rw[← e];exact h.at_ l hl,fun i l hi hl=>?_⟩
 have:=h.kl i l hi hl
 rwa [show dt k l a=dt k l a' from Ld.zH fun t _=>by rw[e]] at this
theorem S_split {F:Int→Int}:∀ (a b:Nat),Ld.S (a+b) F=Ld.S a F+Ld.S b fun i=>F (a+i)
 | a,0=>by show Ld.S a F=Ld.S a F+0;omega
 | a,b+1=>by
  show Ld.S (a+b) F+F ((a+b:Nat):Int)=Ld.S a F+((Ld.S b fun i=>F (a+i))+F (a+b))
  rw[S_split a b,Int.natCast_add];omega
theorem dot_cut {l am:List Int}{k lo hi:Nat}(ll:k≤l.length)(la:am.length=k)(h1:lo≤hi)(h2:hi≤k)(z1:∀ i,i < lo→g am i=0)(z2:∀ i,hi≤i→g am i=0) :
  dot ((l.take hi).drop lo) ((am.take hi).drop lo)=dt k l (fn am):=by
 have gt:∀ (x:List Int)(i:Nat),i < hi-lo→g ((x.take hi).drop lo) i=g x (lo+i):=fun x i hx=>by
  rw[g_drop]
  unfold g
  rw[List.getD_eq_getElem?_getD,List.getD_eq_getElem?_getD,List.getElem?_take_of_lt (by omega)]
 rw[zAr (n:=hi-lo) (by rw[List.length_drop,List.length_take];omega) (by rw[List.length_drop,List.length_take];omega)]
 have e1:dt k l (fn am)=Ld.S hi fun i=>g l i.toNat*fn am i:=by
  unfold dt
  exact Mx.S_cut h2 fun t ht _=>by unfold fn;rw[Int.toNat_natCast,z2 t ht,Int.mul_zero]
 rw[e1,show hi=lo+(hi-lo) by omega,S_split lo (hi-lo)]
 have e2:(Ld.S lo fun i=>g l i.toNat*fn am i)=0:=by
  rw[Ld.zH (G:=fun _=>0) fun i hi'=>by unfold fn;rw[Int.toNat_natCast,z1 i hi',Int.mul_zero],Ld.jA]
 rw[e2,Int.zero_add,show lo+(hi-lo)=hi by omega]
 refine Ld.zH fun i hi'=>?_
 unfold fn
 rw[Int.toNat_natCast,gt l i hi',gt am i hi',show ((lo:Int)+(i:Int)).toNat=lo+i by omega]
theorem lcm_ok {a b G:Int}(a1:1≤a)(b1:1≤b)(hG:G=(Int.gcd a b:Nat)):1≤G∧G≤a∧1≤a/G*b∧a∣a/G*b∧b∣a/G*b∧∀ D:Int,a∣D→b∣D→a/G*b∣D:=by
 have g0:0 < Int.gcd a b:=Int.gcd_pos_of_ne_zero_left _ (by omega)
 have G1:1≤G:=by omega
 obtain⟨a',ha⟩:G∣a:=by rw[hG];exact Int.gcd_dvd_left ..
 obtain⟨b',hb⟩:G∣b:=by rw[hG];exact Int.gcd_dvd_right ..
 have cop:Int.gcd a' b'=1:=by
  have h:Int.gcd a b=Int.gcd a b*Int.gcd a' b':=by
   have:=Int.gcd_mul_left G a' b'
   rw[← ha,← hb,hG,Int.natAbs_natCast] at this
   exact this
  have:Int.gcd a b*1=Int.gcd a b*Int.gcd a' b':=by rw[Nat.mul_one];exact h
  exact (Nat.eq_of_mul_eq_mul_left g0 this).symm
 have G0:G≠0:=by omega
 have e:a/G=a':=by rw[ha,Int.mul_ediv_cancel_left _ G0]
 have a'1:1≤a':=by
  rcases Int.lt_or_le 0 a' with c | c
  ·exact c
  ·have:=Int.mul_le_mul_of_nonneg_left c (show 0≤G by omega);omega
 refine⟨G1,?_,?_,?_,?_,fun D dA dB=>?_⟩
 ·have:=Int.mul_le_mul_of_nonneg_left a'1 (show 0≤G by omega);omega
 ·rw[e];have:=Int.mul_le_mul_of_nonneg_right a'1 (show 0≤b by omega);omega
 ·rw[e];exact⟨b',by rw[ha,hb];grind⟩
 ·rw[e];exact⟨a',Int.mul_comm ..⟩
 ·rw[e]
  obtain⟨x,hx⟩:=dA
  obtain⟨y,hy⟩:=dB
  have h1:a'*x=b'*y:=Int.eq_of_mul_eq_mul_left G0 (by rw[← Int.mul_assoc,← Int.mul_assoc,← ha,← hb,← hx,← hy])
  have d:b'∣a'*x:=⟨y,h1⟩
  have d':=Int.natAbs_dvd_natAbs.mpr d
  rw[Int.natAbs_mul] at d'
  have d2:b'∣x:=Int.natAbs_dvd_natAbs.mp (Nat.Coprime.dvd_of_dvd_mul_left (by rw[Nat.coprime_comm];exact cop) d')
  obtain⟨z,hz⟩:=d2
  exact⟨z,by rw[hx,hz,ha,hb];grind⟩
theorem bez {one other r0 c0 c1:Int}(h:Eb.St one other r0 0 c0 c1)(o1:1≤one):(r0-c0*other)/one*one+c0*other=r0:=by
 obtain⟨m0,m1,e0,e1,d⟩:=h.m
 have:r0-c0*other=m0*one:=by omega
 rw[this,Int.mul_ediv_cancel _ (by omega)];omega
end Rx
namespace Rx
open Lt
open Mx
theorem dot_spr {p:Int}(hp:Pt.Prm p){w n:Nat}{steps:List (List Int)}{fs:List Fd}(h:Crn p w steps n fs){v x:List Int}(lv:v.length=w)(lx:x.length=fs.length):dot v (spr w (vE fs) x)=Ld.S fs.length fun t=>fn v (cl fs t.toNat)*fn x t:=by
 rw[zAr lv (jR ..)]
 have:=S_spr (n:=w) (F:=fn v) (ps:=vE fs) (xs:=x) (k:=fs.length) (by unfold vE;rw[List.length_map]) lx (h.cols_nd hp) (jC h)
 unfold fn at this ⊢
 rw[this]
 refine Ld.zH fun t ht=>?_
 have e:(vE fs).getD (t:Int).toNat 0=cl fs (t:Int).toNat:=by
  rw[Int.toNat_natCast,List.getD_eq_getElem?_getD,cols_at ht];rfl
 rw[e]
theorem bar_eq {k:Nat}{U:Nat→Nat→Int}{x am T v:Int→Int}{s M:Int}(hs:∀ i:Nat,i < k→(Ld.S k fun t=>U i t.toNat*x t)=s*am i)(hT:∀ t:Nat,t < k→(Ld.S k fun i=>U i.toNat t*T i)=M*v t) :
  M*(Ld.S k fun t=>v t*x t)=s*Ld.S k fun i=>T i*am i:=by
 rw[← Ld.vL,← Ld.vL]
 have e1:(Ld.S k fun t=>M*(v t*x t))=Ld.S k fun t=>Ld.S k fun i=>U i.toNat t.toNat*T i*x t:=Ld.zH fun t ht=>by
  rw[Ld.zDr,Int.toNat_natCast,hT t ht];grind
 rw[e1,Ld.jH]
 refine Ld.zH fun i hi=>?_
 have:(Ld.S k fun t=>U (i:Int).toNat t.toNat*T i*x t)=T i*Ld.S k fun t=>U i t.toNat*x t:=by
  rw[← Ld.vL]
  refine Ld.zH fun t _=>?_
  rw[Int.toNat_natCast];grind
 rw[this,hs i hi];grind
theorem bar_iff {s M A B:Int}(s1:1≤s)(M1:1≤M)(e:M*A=s*B):s∣A↔M∣B:=by
 constructor
 ·rintro⟨y,hy⟩
  refine⟨y,Int.eq_of_mul_eq_mul_left (show s≠0 by omega) ?_⟩
  rw[← e,hy];grind
 ·rintro⟨y,hy⟩
  refine⟨y,Int.eq_of_mul_eq_mul_left (show M≠0 by omega) ?_⟩
  rw[e,hy];grind
theorem dot_mod {s:Int}{v W:List Int}{w:Nat}(lv:v.length=w)(lW:W.length=w):s∣dot v (W.map fun x=>x%s)-dot v W:=by
 rw[zAr lv (by rw[List.length_map,lW]),zAr lv lW]
 refine jV fun i hi=>?_
 rw[Int.toNat_natCast,zEe (by omega),← Int.mul_sub]
 exact Int.dvd_mul_of_dvd_right (vX _ _)
def wh (tops:List Int)(q:Int):List Int:=tops.map fun x=>x*q
theorem wh_len (tops:List Int)(q:Int):(wh tops q).length=tops.length:=by unfold wh;rw[List.length_map]
theorem wh_eq {k:Nat}{U:Nat→Nat→Int}{tops:List Int}{b M v:Int}{t:Nat}(lt:tops.length=k)(b1:1≤b)(bM:b∣M)(h:(Ld.S k fun i=>U i.toNat t*fn tops i)=b*v):(Ld.S k fun i=>U i.toNat t*fn (wh tops (M/b)) i)=M*v:=by
 have e:(Ld.S k fun i=>U i.toNat t*fn (wh tops (M/b)) i)=M/b*Ld.S k fun i=>U i.toNat t*fn tops i:=by
  rw[← Ld.vL]
  refine Ld.zH fun i hi=>?_
  unfold fn wh
  rw[Int.toNat_natCast,zEe (by omega)];grind
 rw[e,h,← Int.mul_assoc,Int.ediv_mul_cancel bM]
theorem way_eq {k r:Nat}{U:Nat→Nat→Int}{M gv:Int}{t:Nat}{goalw:Int→Int}{R:Nat→Int→Int}{sv:Nat→Int}{tk sp:Int→Int}(M1:1≤M)(hg:(Ld.S k fun i=>U i.toNat t*goalw i)=M*gv)(hR:∀ j:Nat,j < r→(Ld.S k fun i=>U i.toNat t*R j i)=M*sv j)
  (hsp:∀ i:Nat,i < k→M*sp i=goalw i-Ld.S r fun j=>tk j*R j.toNat i):(Ld.S r fun j=>tk j*sv j.toNat)+(Ld.S k fun i=>sp i*U i.toNat t)=gv:=by
 refine Int.eq_of_mul_eq_mul_left (show M≠0 by omega) ?_
 rw[Int.mul_add,← hg,← Ld.vL,← Ld.vL]
 have e1:(Ld.S k fun i=>M*(sp i*U i.toNat t))=(Ld.S k fun i=>U i.toNat t*goalw i) + -1*Ld.S k fun i=>Ld.S r fun j=>tk j*(U i.toNat t*R j.toNat i):=by
  rw[← Ld.vL,← Ld.wS]
  refine Ld.zH fun i hi=>?_
  have a:=hsp i hi
  have b:(Ld.S r fun j=>tk j*(U (i:Int).toNat t*R j.toNat i))=U (i:Int).toNat t*Ld.S r fun j=>tk j*R j.toNat i:=by
   rw[← Ld.vL];exact Ld.zH fun j _=>by grind
  rw[b,show M*(sp i*U (i:Int).toNat t)=M*sp i*U (i:Int).toNat t by grind,a];grind
 have e2:(Ld.S k fun i=>Ld.S r fun j=>tk j*(U i.toNat t*R j.toNat i))=Ld.S r fun j=>M*(tk j*sv j.toNat):=by
  rw[Ld.jH]
  refine Ld.zH fun j hj=>?_
  rw[Ld.vL,Int.toNat_natCast,hR j hj];grind
 rw[e1,e2];omega
theorem S_two {n r k:Nat}{F:Int→Int}{os cs:List Nat}{tk sp:List Int}(lo:os.length=r)(lc:cs.length=k)(lt:tk.length=r)(ls:sp.length=k)(nd:(os ++ cs).Nodup)(hl:∀ p∈os ++ cs,p < n) :
  (Ld.S n fun j=>F j*g (spr n (os ++ cs) (tk ++ sp)) j.toNat)=(Ld.S r fun j=>F (os.getD j.toNat 0)*g tk j.toNat)+Ld.S k fun i=>F (cs.getD i.toNat 0)*g sp i.toNat:=by
 rw[S_spr (k:=r+k) (by rw[List.length_append,lo,lc]) (by rw[List.length_append,lt,ls]) nd hl,S_split r k]
 congr 1
 ·refine Ld.zH fun j hj=>?_
  rw[Int.toNat_natCast,zDz (by omega),List.getD_eq_getElem?_getD,List.getD_eq_getElem?_getD,List.getElem?_append_left (by omega)]
 ·refine Ld.zH fun i hi=>?_
  rw[show ((r:Int)+(i:Int)).toNat=r+i by omega,g_app2 lt,Int.toNat_natCast,List.getD_eq_getElem?_getD,List.getD_eq_getElem?_getD,List.getElem?_append_right (by omega),show r+i-os.length=i by omega]
end Rx
namespace Rx
open Lt
open Mx
theorem spr'_mem:∀ (l:List Int)(ps:List Nat)(xs:List Int)(x:Int),x∈spr' l ps xs→x∈l∨x∈xs
 | l,[],_,x,h=>by rw[spr'] at h;exact .inl h
 | l,_::_,[],x,h=>.inl h
 | l,p::ps,y::xs,x,h=>by
  rcases spr'_mem (l.set p y) ps xs x h with c | c
  ·rcases List.mem_or_eq_of_mem_set c with d | d
   ·exact .inl d
   ·exact .inr (d▸List.mem_cons_self)
  ·exact .inr (List.mem_cons_of_mem _ c)
theorem spr_mem {n:Nat}{ps:List Nat}{xs:List Int}{x:Int}(h:x∈spr n ps xs):x=0∨x∈xs:=by
 rcases spr'_mem _ _ _ _ h with c | c
 ·exact .inl (List.mem_replicate.mp c).2
 ·exact .inr c
theorem cn_dvd (n m:Int):m∣cn n m-n:=by
 have a:=vX n m
 unfold cn
 split
 ·exact a
 ·have:=Int.dvd_sub a (Int.dvd_refl m)
  rwa [show n%m-n-m=n%m-m-n by omega] at this
theorem cn_bd {n m:Int}(m0:0 < m):(cn n m).natAbs≤m.natAbs:=by
 have a:=Int.emod_nonneg n (show m≠0 by omega)
 have b:=Int.emod_lt_of_pos n m0
 unfold cn
 split <;> omega
theorem sum_cons {r:Nat}{gw:List Int}{rows:List (List Int)}{tk:List Int}(lt:tk.length=r){c:Nat}:(Ld.S (r+1) fun j=>g (1::tk.map fun x=>-x) j.toNat*g ((gw::rows).getD j.toNat []) c)=g gw c-Ld.S r fun j=>fn tk j*rwf rows j.toNat c:=by
 rw[Nat.add_comm,S_split 1 r]
 have e0:(Ld.S 1 fun j=>g (1::tk.map fun x=>-x) j.toNat*g ((gw::rows).getD j.toNat []) c)=g gw c:=by
  show 0+g (1::tk.map fun x=>-x) ((0:Nat):Int).toNat*g ((gw::rows).getD ((0:Nat):Int).toNat []) c=_
  rw[Int.toNat_natCast]
  show 0+1*g gw c=_
  omega
 rw[e0]
 have e1:(Ld.S r fun i=>g (1::tk.map fun x=>-x) (((1:Nat):Int)+i).toNat*g ((gw::rows).getD (((1:Nat):Int)+i).toNat []) c)=-1*Ld.S r fun j=>fn tk j*rwf rows j.toNat c:=by
  rw[← Ld.vL]
  refine Ld.zH fun j hj=>?_
  rw[show (((1:Nat):Int)+(j:Int)).toNat=j+1 by omega]
  have a:g (1::tk.map fun x=>-x) (j+1)=-(g tk j):=by
   refine wH ?_
   rw[List.getElem?_cons_succ,List.getElem?_map,wI (by omega)];rfl
  have b:(gw::rows).getD (j+1) []=rows.getD j []:=by rw[List.getD_eq_getElem?_getD,List.getElem?_cons_succ,← List.getD_eq_getElem?_getD]
  rw[a,b]
  unfold fn rwf
  rw[Int.toNat_natCast,Int.toNat_natCast];grind
 rw[e1];omega
structure Mad (steps:List (List Int))(fs:List Fd)(D N:Nat)(v:Int→Int)(tops:List Int)(b:Int):Prop where
 len:tops.length=fs.length
 b1:1≤b
 bD:b∣(D:Int)
 bN:b < 2^N
 bd:∀ x∈tops,x.natAbs < 2^N
 eq:∀ i:Nat,i < fs.length→(Ld.S fs.length fun t=>st steps (nm fs t.toNat) (cl fs i)*fn tops t)=b*v (cl fs i)
end Rx
namespace Rx
open Lt
open Mx
theorem nd_len {l:List Nat}{n:Nat}(nd:l.Nodup)(h:∀ x∈l,x < n):l.length≤n:=by
 refine Nat.le_of_not_lt fun lt=>?_
 obtain⟨i,j,ij,jl,e⟩:=Pg.pigeon (fun i=>l.getD i 0%(n+1)%(n+1)) (M:=n) (N:=l.length) lt (fun i hi=>by
  rw[List.getD_eq_getElem?_getD,List.getElem?_eq_getElem hi]
  have:=h _ (List.getElem_mem hi)
  show (l[i]%(n+1))%(n+1) < n
  rw[Nat.mod_mod,Nat.mod_eq_of_lt (by omega)];exact this)
 have il:i < l.length:=by omega
 have a:=h _ (List.getElem_mem il)
 have b:=h _ (List.getElem_mem jl)
 rw[List.getD_eq_getElem?_getD,List.getElem?_eq_getElem il,List.getD_eq_getElem?_getD,List.getElem?_eq_getElem jl] at e
 have e':l[i]%(n+1)%(n+1)=l[j]%(n+1)%(n+1):=e
 rw[Nat.mod_mod,Nat.mod_mod,Nat.mod_eq_of_lt (by omega),Nat.mod_eq_of_lt (by omega)] at e'
 exact List.pairwise_iff_getElem.mp nd i j il jl ij e'
theorem Hg.sum {w:Nat}{stp:Nat→Int→Int}{k:Nat}{num:Nat→Nat}{a:Nat→Int}{v:Nat→Int→Int}:∀ {n:Nat},(∀ j,j < n→Hg w stp k num (v j))→Hg w stp k num fun c=>Ld.S n fun j=>a j.toNat*v j.toNat c
 | 0,_=>Hg.zero
 | n+1,h=>by
  have:=Hg.add (Hg.sum (a:=a) (n:=n) fun j hj=>h j (Nat.lt_succ_of_lt hj)) (h n (Nat.lt_succ_self n)) 1 (a n)
  have e:(fun c=>Ld.S (n+1) fun j=>a j.toNat*v j.toNat c)=fun c=>1*(Ld.S n fun j=>a j.toNat*v j.toNat c)+a n*v n c:=by
   funext c
   show (Ld.S n fun j=>a j.toNat*v j.toNat c)+a (n:Int).toNat*v (n:Int).toNat c=_
   rw[Int.toNat_natCast,Int.one_mul]
  rw[e];exact this
def ShB (steps:List (List Int))(goal W:List Int)(s:Int):Prop:=(∀ j,j < steps.length→s∣dot (steps.getD j []) W)∧¬ s∣dot goal W
def ShW (w:Nat)(steps:List (List Int))(goal cnts:List Int):Prop:=∀ c:Nat,c < w→(Ld.S steps.length fun j=>g cnts j.toNat*g (steps.getD j.toNat []) c)=g goal c
theorem way_shown {p:Int}(hp:Pt.Prm p){w:Nat}{steps:List (List Int)}{fs:List Fd}(h:Crn p w steps steps.length fs){goal cnts:List Int}(gd:Good p w steps.length (st steps) (fn goal))(hm:Hm p w (st steps) fs.length (nm fs) (fn goal))
  (eq:∀ i:Nat,i < fs.length→(Ld.S steps.length fun j=>st steps j.toNat (cl fs i)*g cnts j.toNat)=g goal (cl fs i)):ShW w steps goal cnts:=by
 obtain⟨g1,g2⟩:=gd _ _ _ h.fr
 have hs:=Hg.sum (a:=fun j=>g cnts j) (n:=steps.length) g1
 have hd:=Hg.add hs (g2 hm) 1 (-1)
 have z:=Hg.all hp h.cor hd fun t ht=>by
  have e:=eq t ht
  have a:(Ld.S steps.length fun j=>g cnts j.toNat*st steps j.toNat (cl fs t))=Ld.S steps.length fun j=>st steps j.toNat (cl fs t)*g cnts j.toNat:=Ld.zH fun j _=>Int.mul_comm ..
  rw[a,e]
  unfold fn
  rw[Int.toNat_natCast];omega
 intro c hc
 have:=z c hc
 unfold fn st at this
 rw[Int.toNat_natCast] at this
 omega
theorem bar_shown {p:Int}{w:Nat}{steps:List (List Int)}{fs:List Fd}(h:Crn p w steps steps.length fs)(lw:∀ y∈steps,y.length=w){goal W:List Int}(lW:W.length=w)(gd:Good p w steps.length (st steps) (fn goal))(z:∀ i,i < fs.length→dot (steps.getD (nm fs i) []) W=0)(j:Nat)(hj:j < steps.length):dot (steps.getD j []) W=0:=by
 obtain⟨g1,_⟩:=gd _ _ _ h.fr
 have key:∀ i,i < steps.length→dot (steps.getD i []) W=Ld.S w fun c=>st steps i c*fn W c:=fun i hi=>by
  rw[zAr (lw _ (vZ hi)) lW];rfl
 rw[key j hj]
 exact Hg.weigh (g1 j hj) fun i hi=>by rw[← key _ (h.numn hi)];exact z i hi
theorem miss_dot {p:Int}(hp:Pt.Prm p){w:Nat}{steps:List (List Int)}{fs:List Fd}(h:Crn p w steps steps.length fs)(lw:∀ y∈steps,y.length=w){goal W:List Int}(lg:goal.length=w)(lW:W.length=w)(z:∀ i,i < fs.length→dot (steps.getD (nm fs i) []) W=0){c:Nat}(hc:c < w)(nz:g (clr p fs goal) c≠0)(own:∀ c',c' < w→c'≠c→(∃ t,t < fs.length∧cl fs t=c')∨g W c'=0)(pW:¬ p∣g W c):dot goal W≠0:=by
 have p2:=hp.1
 have cl':=h.clr (by omega) lg
 obtain⟨x,hx⟩:=cl'.eq
 have ok:=zEo (show 0 < p by omega) lg rfl h.rok
 intro e
 -- by p: goal weighs what is left of it weighs
 have d1:p∣(Ld.S w fun c=>fn (clr p fs goal) c*fn W c)-dot goal W:=by
  rw[zAr lg lW]
  have a:p∣(Ld.S w fun c=>fn (clr p fs goal) c*fn W c)-Ld.S w fun c=>(fn goal c-Ld.S fs.length fun s=>x s*st steps (nm fs s.toNat) c)*fn W c:=jV fun c hc=>by
   rw[← Int.sub_mul]
   exact Int.dvd_mul_of_dvd_left (hx c hc)
  have b:(Ld.S w fun c=>(fn goal c-Ld.S fs.length fun s=>x s*st steps (nm fs s.toNat) c)*fn W c)=Ld.S w fun i=>g goal i.toNat*g W i.toNat:=by
   have b1:(Ld.S w fun c=>(fn goal c-Ld.S fs.length fun s=>x s*st steps (nm fs s.toNat) c)*fn W c)=(Ld.S w fun c=>fn goal c*fn W c) + -1*Ld.S w fun c=>Ld.S fs.length fun s=>x s*(st steps (nm fs s.toNat) c*fn W c):=by
    rw[← Ld.vL,← Ld.wS]
    refine Ld.zH fun c _=>?_
    have:(Ld.S fs.length fun s=>x s*(st steps (nm fs s.toNat) c*fn W c))=(Ld.S fs.length fun s=>x s*st steps (nm fs s.toNat) c)*fn W c:=by
     rw[← Ld.zDr];exact Ld.zH fun s _=>by grind
    rw[this];grind
   have b2:(Ld.S w fun c=>Ld.S fs.length fun s=>x s*(st steps (nm fs s.toNat) c*fn W c))=0:=by
    rw[Ld.jH,Ld.zH (G:=fun _=>0) fun s hs=>?_,Ld.jA]
    rw[Ld.vL,Int.toNat_natCast]
    have:=z s hs
    rw[zAr (lw _ (vZ (h.numn hs))) lW] at this
    have e2:(Ld.S w fun c=>st steps (nm fs s) c*fn W c)=0:=this
    rw[e2,Int.mul_zero]
   rw[b1,b2]
   unfold fn;omega
  rwa [b] at a
 rw[e,Int.sub_zero] at d1
 have d2:p∣g (clr p fs goal) c*g W c:=by
  have a:p∣(Ld.S w fun c'=>fn (clr p fs goal) c'*fn W c')-Ld.S w fun c'=>fn (clr p fs goal) c'*fn W c'*if c'=(c:Int) then 1 else 0:=jV fun c' hc'=>by
   by_cases q:c'=c
   ·rw[if_pos (by omega),Int.mul_one,Int.sub_self];exact Int.dvd_zero _
   ·rw[if_neg (by omega),Int.mul_zero,Int.sub_zero]
    rcases own c' hc' q with ⟨t,ht,et⟩ | y
    ·have:=cl'.zero t ht
     rw[et] at this
     exact Int.dvd_mul_of_dvd_left this
    ·unfold fn
     rw[Int.toNat_natCast,y,Int.mul_zero];exact Int.dvd_zero _
  rw[wC (F:=fun c'=>fn (clr p fs goal) c'*fn W c') hc] at a
  have:=(jI a).mp d1
  unfold fn at this
  rwa [Int.toNat_natCast] at this
 have r:=ok.2.g (show 0 < p by omega) c
 exact pW (w9 hp d2 fun d3=>by
  have:=Int.le_of_dvd (show 0 < g (clr p fs goal) c by omega) d3
  omega)
theorem pow_part {p:Int}(hp:Pt.Prm p):∀ (n:Nat){b:Int},1≤b→b.toNat≤n→∃ (j:Nat)(b':Int),b=p^j*b'∧¬ p∣b'
 | 0,b,h,l=>by omega
 | n+1,b,h,l=>by
  by_cases c:p∣b
  ·obtain⟨b1,hb⟩:=c
   have p2:=hp.1
   have b10:1≤b1:=by
    rcases Int.lt_or_le 0 b1 with q | q
    ·exact q
    ·have:=Int.mul_le_mul_of_nonneg_left q (show 0≤p by omega);omega
   have:2*b1≤p*b1:=Int.mul_le_mul_of_nonneg_right (by omega) (by omega)
   obtain⟨j,b',e,nb⟩:=pow_part hp n (b:=b1) b10 (by omega)
   exact⟨j+1,b',by rw[hb,e,Int.pow_succ];grind,nb⟩
  ·exact⟨0,b,by rw[Int.pow_zero,Int.one_mul],c⟩
theorem miss_dot2 {p:Int}(hp:Pt.Prm p){w:Nat}{steps:List (List Int)}{fs:List Fd}(h:Crn p w steps steps.length fs)(ci:CI p fs.length (mt (rowsOf steps fs)))(lw:∀ y∈steps,y.length=w){goal W tops:List Int}{am:Int→Int}{b:Int}(lg:goal.length=w)(lW:W.length=w)(z:∀ i,i < fs.length→dot (steps.getD (nm fs i) []) W=0){c:Nat}(hc:c < w)(nz:g (clr p fs goal) c≠0)
  (b1:1≤b)(Wc:g W c=b)(Wt:∀ t,t < fs.length→cl fs t≠c→g W (cl fs t)=-(g tops t))(own:∀ c',c' < w→c'≠c→(∃ t,t < fs.length∧cl fs t=c')∨g W c'=0)(sol:∀ i:Nat,i < fs.length→(Ld.S fs.length fun t=>st steps (nm fs i) (cl fs t.toNat)*fn tops t)=b*am i):dot goal W≠0:=by
 have p2:=hp.1
 obtain⟨j,b',eb,nb⟩:=pow_part hp b.toNat b1 (Nat.le_refl _)
 have pj:0 < p^j:=Int.pow_pos (by omega)
 have tops_d:=ci.pow (by omega) j (y:=fn tops) fun i hi=>by
  have e:(Ld.S fs.length fun t=>mt (rowsOf steps fs) i t*fn tops t)=b*am i:=by
   rw[← sol i hi]
   exact Ld.zH fun t ht=>by rw[zFf hi ht,Int.toNat_natCast]
  rw[e,eb,Int.mul_assoc];exact Int.dvd_mul_right ..
 have div:∀ c',c' < w→p^j∣g W c':=fun c' hc'=>by
  by_cases q:c'=c
  ·rw[q,Wc,eb];exact Int.dvd_mul_right ..
  ·rcases own c' hc' q with ⟨t,ht,et⟩ | y
   ·rw[← et,Wt t ht (by rw[et];exact q)]
    have:=tops_d t ht
    unfold fn at this
    rw[Int.toNat_natCast] at this
    exact Int.dvd_neg.mpr this
   ·rw[y];exact Int.dvd_zero _
 obtain⟨W',hW'⟩:∃ W':List Int,W'=W.map fun x=>x/p^j:=⟨_,rfl⟩
 have lW':W'.length=w:=by rw[hW',List.length_map,lW]
 have gW:∀ c',c' < w→g W c'=p^j*g W' c':=fun c' hc'=>by
  rw[hW',zEe (by omega),Int.mul_ediv_cancel' (div c' hc')]
 have dots:∀ v:List Int,v.length=w→dot v W=p^j*dot v W':=fun v lv=>by
  rw[zAr lv lW,zAr lv lW',← Ld.vL]
  refine Ld.zH fun i hi=>?_
  rw[Int.toNat_natCast,gW i hi];grind
 have cancel:∀ x:Int,p^j*x=0→x=0:=fun x e=>(Int.mul_eq_zero.mp e).resolve_left (by omega)
 have r:=miss_dot hp h lw lg lW' (fun i hi=>cancel _ (by rw[← dots _ (lw _ (vZ (h.numn hi)))];exact z i hi)) hc nz (fun c' hc' q=>(own c' hc' q).imp id fun y=>cancel _ (by rw[← gW c' hc'];exact y)) (fun d=>nb (by
  have e:b'=g W' c:=Int.eq_of_mul_eq_mul_left (show p^j≠0 by omega) (by rw[← eb,← gW c hc,Wc])
  rw[e];exact d))
 rw[dots goal lg]
 exact fun e=>r (cancel _ e)
end Rx
namespace Rx
open Lt
open Mx
theorem set_dot {v W0:List Int}{w c:Nat}{b:Int}(lv:v.length=w)(lW:W0.length=w)(hc:c < w)(z:g W0 c=0):dot v ((W0.map fun x=>-x).set c b)=b*g v c-dot v W0:=by
 rw[zAr lv (by rw[List.length_set,List.length_map,lW]),zAr lv lW]
 have e:(Ld.S w fun i=>g v i.toNat*g ((W0.map fun x=>-x).set c b) i.toNat)=(Ld.S w fun i=>b*g v i.toNat*if i=(c:Int) then 1 else 0) + -1*Ld.S w fun i=>g v i.toNat*g W0 i.toNat:=by
  rw[← Ld.vL,← Ld.wS]
  refine Ld.zH fun i hi=>?_
  rw[Int.toNat_natCast,g_set (by rw[List.length_map];omega)]
  by_cases q:i=c
  ·rw[if_pos q,if_pos (by omega),q,z];grind
  ·rw[if_neg q,if_neg (by omega),zEe (by omega)];grind
 rw[e,wC (F:=fun i=>b*g v i.toNat) hc,Int.toNat_natCast];omega
theorem Crn.not_col {p:Int}(hp:Pt.Prm p){w:Nat}{steps:List (List Int)}{fs:List Fd}(h:Crn p w steps steps.length fs){goal:List Int}(lg:goal.length=w){c:Nat}(nz:g (Rx.clr p fs goal) c≠0):c∉vE fs:=fun hm=>by
 have p2:=hp.1
 unfold vE at hm
 obtain⟨f,hf,e⟩:=List.mem_map.mp hm
 obtain⟨t,ht,et⟩:=List.getElem_of_mem hf
 have cz:=(h.clr (by omega) lg).zero t ht
 have ec:cl fs t=c:=by unfold cl;rw[getD_at (List.getElem?_eq_getElem ht),et,e]
 rw[ec] at cz
 unfold fn at cz
 rw[Int.toNat_natCast] at cz
 have r:=(zEo (show 0 < p by omega) lg rfl h.rok).2.g (show 0 < p by omega) c
 have:=Int.le_of_dvd (show 0 < g (Rx.clr p fs goal) c by omega) cz
 omega
theorem miss_bar {p:Int}(hp:Pt.Prm p){w:Nat}{steps:List (List Int)}{fs:List Fd}(h:Crn p w steps steps.length fs)(ci:CI p fs.length (mt (rowsOf steps fs)))(lw:∀ y∈steps,y.length=w){goal tops am:List Int}{b:Int}(lg:goal.length=w)(lt:tops.length=fs.length){c:Nat}(hc:c < w)(nz:g (Rx.clr p fs goal) c≠0)(b1:1≤b)
  (eam:∀ i,i < fs.length→g am i=g (steps.getD (nm fs i) []) c)(sol:∀ i:Nat,i < fs.length→(Ld.S fs.length fun t=>st steps (nm fs i) (cl fs t.toNat)*fn tops t)=b*g am i)(gd:Good p w steps.length (st steps) (fn goal)) :
  ShB steps goal (((spr w (vE fs) tops).map fun x=>-x).set c b) 0:=by
 have nc:=h.not_col hp lg nz
 have lW0:=jR w (vE fs) tops
 have z0:g (spr w (vE fs) tops) c=0:=zEu nc (jC h)
 obtain⟨W,hW⟩:∃ W:List Int,W=((spr w (vE fs) tops).map fun x=>-x).set c b:=⟨_,rfl⟩
 rw[← hW]
 have lW:W.length=w:=by rw[hW,List.length_set,List.length_map,lW0]
 have zero:∀ i,i < fs.length→dot (steps.getD (nm fs i) []) W=0:=fun i hi=>by
  have lv:=lw _ (vZ (rows:=steps) (h.numn hi))
  rw[hW,set_dot lv lW0 hc z0,dot_spr hp h lv lt,← eam i hi]
  have:=sol i hi
  have e:(Ld.S fs.length fun t=>fn (steps.getD (nm fs i) []) (cl fs t.toNat)*fn tops t)=b*g am i:=this
  rw[e];omega
 have gW:∀ c',c' < w→g W c'=if c'=c then b else -(g (spr w (vE fs) tops) c'):=fun c' hc'=>by
  rw[hW,g_set (by rw[List.length_map];omega)]
  by_cases q:c'=c
  ·rw[if_pos q,if_pos q]
  ·rw[if_neg q,if_neg q,zEe (by omega)]
 refine⟨fun j hj=>?_,fun d=>?_⟩
 ·rw[bar_shown h lw lW gd zero j hj];exact Int.dvd_refl _
 ·refine miss_dot2 hp h ci lw lg lW zero hc nz b1 (by rw[gW c hc,if_pos rfl]) (tops:=tops) (am:=fun i=>g am i.toNat) (fun t ht q=>?_) (fun c' hc' q=>?_) (fun i hi=>by rw[Int.toNat_natCast];exact sol i hi) (Int.zero_dvd.mp d)
  ·rw[gW _ (h.cor.colw t ht),if_neg q,spr_at (h.cols_nd hp) (jC h) (cols_at ht) (wI (by omega))]
  ·by_cases m:c'∈vE fs
   ·unfold vE at m
    obtain⟨f,hf,e⟩:=List.mem_map.mp m
    obtain⟨t,ht,et⟩:=List.getElem_of_mem hf
    exact .inl ⟨t,ht,by unfold cl;rw[getD_at (List.getElem?_eq_getElem ht),et,e]⟩
   ·right
    rw[gW c' hc',if_neg q,zEu m (jC h)];rfl
end Rx
namespace Rx
theorem parts_prm {n:Int}{ps:List (Int×Int)}(h:Pt.Parts n ps)(hp:Pt.Prm n):ps=[(n,n)]:=by
 have p2:=hp.1
 have all:∀ x∈ps,x.1=n:=fun x hx=>by
  have a:=(Pt.part_iff h x).mp hx
  rcases Int.lt_or_le x.1 n with c | c
  ·exact absurd a.2.1 (hp.2 x.1 a.1.1 c)
  ·have:=Int.le_of_dvd (by omega) a.2.1
   omega
 cases ps with
 | nil =>
  have e:=h.prd
  have e':(1:Int)=n:=e
  omega
 | cons x l =>
  cases l with
  | nil =>
   have e:=h.prd
   have e':x.2*1=n:=e
   have a:=all x List.mem_cons_self
   have b:x.2=n:=by omega
   have:x=(n,n):=Prod.ext a b
   rw[this]
  | cons y l =>
   exfalso
   have s:=h.srt
   rw[List.pairwise_cons] at s
   have lt:=s.1 y List.mem_cons_self
   have a:=all x List.mem_cons_self
   have b:=all y (List.mem_cons_of_mem _ List.mem_cons_self)
   omega
theorem prm_parts {n:Int}{ps:List (Int×Int)}(h:Pt.Parts n ps)(e:ps=[(n,n)]):Pt.Prm n:=by
 have:=h.row (n,n) (by rw[e];exact List.mem_cons_self)
 exact this.pr
end Rx
namespace Rx
def gD (k C:Nat):Nat:=(2*(k*C)+1)^k
def gG (k C Cg:Nat):Nat:=gD k C+C+Cg
def gB (k C Cg:Nat):Nat:=k*(gD k C*(Sg.bnd k C*gG k C Cg))+gD k C+1
def chk (k C Cg:Nat):Bool:=Nat.ble (128*(gB k C Cg*gB k C Cg)*(128*(gB k C Cg*gB k C Cg))*2^480) (2^9000) && Nat.blt (gG k C Cg) (2^9000) && Nat.blt (gD k C*((k+1)*(Sg.bnd k Cg*Cg))) (Pq.pd Pq.S)
theorem chkA:(List.range 3).all (fun k=>chk k (10^64) (10^64))=true:=by decide +kernel
theorem chkB:(List.range 6).all (fun k=>chk k (10^16) (10^30))=true:=by decide +kernel
theorem chkC:(List.range 7).all (fun k=>chk k (10^10) (10^24))=true:=by decide +kernel
end Rx
namespace Rx
open Lt
open Mx
theorem sh_no {w:Nat}{steps:List (List Int)}{goal cnts W:List Int}{s:Int}(lw:∀ y∈steps,y.length=w)(lg:goal.length=w)(lW:W.length=w)(hw:ShW w steps goal cnts)(hb:ShB steps goal W s):False:=by
 refine hb.2 ?_
 have e:(Ld.S w fun i=>g goal i.toNat*g W i.toNat)=Ld.S steps.length fun j=>g cnts j.toNat*Ld.S w fun c=>g (steps.getD j.toNat []) c.toNat*g W c.toNat:=by
  have e1:(Ld.S w fun i=>g goal i.toNat*g W i.toNat)=Ld.S w fun c=>Ld.S steps.length fun j=>g cnts j.toNat*(g (steps.getD j.toNat []) c.toNat*g W c.toNat):=Ld.zH fun c hc=>by
   rw[Int.toNat_natCast,← hw c hc,← Ld.zDr]
   exact Ld.zH fun j _=>Int.mul_assoc ..
  rw[e1,Ld.jH]
  exact Ld.zH fun j _=>Ld.vL ..
 rw[zAr lg lW,e]
 exact S_dvd fun j hj=>by
  rw[Int.toNat_natCast,← zAr (lw _ (vZ hj)) lW]
  exact Int.dvd_mul_of_dvd_right (hb.1 j hj)
end Rx
namespace Rx
end Rx
namespace L2
open PySem PySem.Spec PyProof.Rows
theorem zCl {env:Env}{kx:Str}:∀ {names:List (Str×NameKind)}{x:Str},(∀ y∈names,y.2=.cell→y.1=kx) →
    ((names.map fun (n,k)=>if (k == NameKind.free && env.scope.kind == .function && env.kindOf n == some .cell) then (n,NameKind.cell) else (n,k)).lookup x=some .cell ∨
     (names.map fun (n,k)=>if (k == NameKind.free && env.scope.kind == .function && env.kindOf n == some .cell) then (n,NameKind.cell) else (n,k)).lookup x=some .free)→x=kx∨(x,NameKind.free)∈names
  | [],x,_,h=>by simp at h
  | (n,k)::r,x,hc,h=>by
    have ih:=@zCl env kx r x (fun y hy=>hc y (List.mem_cons_of_mem _ hy))
    rw[List.map_cons] at h
    dsimp only at h
    cases e:x == n with
    | true =>
      have ex:x=n:=by simpa using e
      subst ex
      cases k with
      | free=>exact .inr List.mem_cons_self
      | cell=>exact .inl (hc (x,.cell) List.mem_cons_self rfl)
      | _ =>
        exfalso
        rw[if_neg (fun z=>by simp at z),List.lookup_cons,e] at h
        rcases h with h | h <;> cases h
    | false =>
      have h':=h
      split at h' <;> (rw[List.lookup_cons,e] at h';exact (ih h').imp id (List.mem_cons_of_mem _))
def zBx (X:Cx)(scope:Scope)(kx:Str)(cl:List (Str×Addr))(N':List Str)(C:Addr)(s:Shared)(H:Hp)(fp:List Addr):Cx where
 prog:=X.prog
 w:=X.w
 K:=X.K
 mg:=X.mg
 base:=X.base
 A:=X.A
 N:=N'
 s₀:=s
 H₀:=H
 env:=compEnvC scope ((kx,C+1)::cl) C X.env
 outer:=X.stack
 stack:=X.stack
 ex:=fp
 fn:=fun x=>x == kx
 calm:=X.calm
 pn:=[]
 xe:=fun _ _=>False
theorem newEnv1 {M:Model}{A:Around}{E:Value→Shared→Prop}{s:Shared}{scope:Scope}{kx:Str}{cl:List (Str×Addr)}{env:Env}{Q:Env→Shared→Prop}
  (hcf:∀ i,cellsFrom i scope.names cl=(kx,i)::cl)(hpc:∀ h:Heap,pushCells h scope.names=h.push { cls:=.type "cell",data:=.cell none })
  (h:∀ h',h'=(s.heap.push { cls:=.type "dict",data:=.dict #[] }).push { cls:=.type "cell",data:=.cell none } →
   Q (newEnv scope s.heap.objs.size env.globals ((kx,s.heap.objs.size+1)::cl) env.qual none .none (some env) builtinsNs) { s with heap:=h' }) :
  wpAny M A (newFunctionEnv scope env.globals cl [] env.qual none .none (some env)) Q E s:=by
 simp only [newFunctionEnv,Option.isSome_some,if_true]
 refine wpAny_bind (wpAny_alloc ?_)
 refine wpAny_bind (wpAny_layCells _ (fun name kind cells=>by cases hkc:kind == NameKind.cell <;> simp [hkc]) _ _ _ _ ?_)
 rw[hcf,hpc]
 refine wpAny_bind ?_
 rw[List.forIn_nil]
 refine wpAny_pure (wpAny_pure ?_)
 have:=h _ rfl
 rw[Heap.size_push]
 exact this
theorem comp_core1 {X:Cx}{kx:Str}{elt iter tg:Expr}{ifs:List Expr}{scope:Scope}{pos pos':Pos}{cl:List (Str×Addr)}{cap:List (Str×Nat)}{tgs:List Str}{wi:TI}{g:TG}{tc:TT}{te:TE}
  (hc:X.calm=true)(hclos:closureFor scope X.env=pure cl)(hkind:scope.kind=.function)
  (hnames:∀ x∈scope.names,x.2=.local→scope.names.lookup x.1=some .local)(hcell:∀ y∈scope.names,y.2=.cell→y.1=kx)(hcf:∀ i,cellsFrom i scope.names cl=(kx,i)::cl)(hpc:∀ h:Heap,pushCells h scope.names=h.push { cls:=.type "cell",data:=.cell none })(hne:∀ p∈cap,p.1≠kx)
  (hfree:∀ y∈scope.names,y.2=.free→∃ c,cl.lookup y.1=some c)
  (hsub:∀ x c,cl.lookup x=some c→X.env.cells.lookup x=some c)
  (hcap:∀ p∈cap,X.N[p.2]?=some p.1∧(X.env.kindOf p.1=some .cell∨X.env.kindOf p.1=some .free)∧((relabel scope X.env).names.lookup p.1=some .cell∨(relabel scope X.env).names.lookup p.1=some .free)∧∃ c,cl.lookup p.1=some c)
  (hl:zDt cap.length g)(hi:PI X tg iter wi)
  (hb:∀ C s H fp,PG (zBx X scope kx cl (cap.map (·.1) ++ tgs) C s H fp) tg g∧PTs (zBx X scope kx cl (cap.map (·.1) ++ tgs) C s H fp) ifs tc∧PE (zBx X scope kx cl (cap.map (·.1) ++ tgs) C s H fp) elt te)
  (hs:∀ x,foldedSetIterable iter X.env x=pure x)
  {pins:List (Addr×Obj)}{s:Shared}{σ:St}{H:Hp}{Q:VK}{Qp:Value→Shared→Prop}{use:Option (Value→Sem Unit)}(I:Inv X pins σ H s)(h:tComp cap tgs.length wi g tc te σ H Q)
  (fin:∀ D C H' s',Inv X pins σ H' s'→Fin X pins H' s' C→Q (.ref D) H'→compPost (model X.prog X.w) X.A X.xe use Qp (.ref D) C (.ok .next) s') :
  wpAny (model X.prog X.w) X.A (comprehension (.ListComp elt [⟨tg,iter,ifs,0⟩] scope pos) scope X.env pos' (newList []) false (eval iter X.env) use) Qp X.xe s:=by
 refine wpAny_comprehension_free (g:=⟨tg,iter,ifs,0⟩) (gs:=[]) rfl hs hclos hkind hnames ?_
 refine thn (hi pins s σ H _ I h) fun v s1 h1=>thn h1 fun itv s2 h2=>?_
 obtain⟨it,fp,tn,J,H2,e,I2,T,st2,f2,W,⟨m0,w0⟩,turn⟩:=h2
 subst e
 refine wpAny_newObj_type (newEnv1 hcf hpc fun h₁ e₁=>?_)
 dsimp only at e₁ ⊢
 generalize hH2:s2.heap.push { cls:=.type "list",dict:=none,data:=.seq ([]:List Value).toArray }=HH at e₁ ⊢
 have hC:HH.objs.size=s2.heap.objs.size+1:=by rw[← hH2,Heap.size_push]
 have hDC:s2.heap.objs.size≠HH.objs.size:=by rw[hC];exact Nat.ne_of_lt (Nat.lt_succ_self _)
 have below:∀ b,b < s2.heap.objs.size→b≠HH.objs.size∧b≠s2.heap.objs.size:=fun b hb=>⟨by rw[hC];exact Nat.ne_of_lt (Nat.lt_succ_of_lt hb),Nat.ne_of_lt hb⟩
 have psz:(HH.push { cls:=.type "dict",data:=.dict #[] }).objs.size=HH.objs.size+1:=Heap.size_push ..
 have old:∀ b o,s2.heap.get? b=some o→h₁.get? b=some o:=fun b o e=>e₁▸Heap.get?_push_of_some _ (Heap.get?_push_of_some _ (hH2▸Heap.get?_push_of_some _ e))
 have hacc:h₁.get? s2.heap.objs.size=some (zFv []):=e₁▸Heap.get?_push_of_some _ (Heap.get?_push_of_some _ (hH2▸Heap.get?_push_size _ rfl))
 have hns₁:h₁.Ns HH.objs.size (fun _=>none):=e₁▸(Heap.Ns.new HH (.type "dict")).keeps fun b o e=>Heap.get?_push_of_some _ e
 have hk1:h₁.IsCell (HH.objs.size+1) none:=e₁▸⟨_,psz▸Heap.get?_push_size _ rfl,rfl⟩
 have leK:s2.heap.objs.size≤HH.objs.size+1:=by rw[hC];exact Nat.le_add_right _ 2
 have csq:∀ x c,((kx,HH.objs.size+1)::cl).lookup x=some c→(x=kx∧c=HH.objs.size+1)∨(x≠kx∧cl.lookup x=some c):=fun x c e=>by
  rw[List.lookup_cons] at e
  cases q:x == kx with
  | true=>rw[q] at e;exact .inl ⟨by simpa using q,(Option.some.inj e).symm⟩
  | false=>rw[q] at e;exact .inr ⟨by simpa using q,e⟩
 have csl:∀ x c,x≠kx→cl.lookup x=some c→((kx,HH.objs.size+1)::cl).lookup x=some c:=fun x c n e=>by
  rw[List.lookup_cons,beq_false_of_ne n];exact e
 have fpold:∀ b∈fp,b < s2.heap.objs.size:=fun b hb=>let ⟨o,e,_⟩:=T.obj _ _ st2 b hb;Heap.lt_size e
 have celo:∀ x c,cl.lookup x=some c→c < s2.heap.objs.size:=fun x c e=>let ⟨v,q⟩:=I2.cell x c (hsub x c e);q.lt
 have frold:∀ b∈frs X.stack,b < s2.heap.objs.size:=fun b hb=>by
  obtain⟨_,o,ho,_⟩:=I2.stack.mem hb
  exact Heap.lt_size ho
 generalize hX:zBx X scope kx cl (cap.map (·.1) ++ tgs) HH.objs.size s2 H2 fp=X'
 have ok':X'.Ok:=by
  subst hX
  refine { mod:=I2.ok.mod,kind:=hkind,glob:=I2.ok.glob,blt:=I2.ok.blt,above:=?_,inj:=?_,has:=?_,cab:=?_,hd:=I2.ok.hd,frames:=I2.ok.frames,stk:=.inl rfl,exf:=?_,bs:=I2.bs,bsz:=Nat.le_trans I2.ok.bsz I2.sz,noex:=?_,exfs:=?_,funs:=I2.stack,frf:=I2.stkFree }
  ·show s2.heap.objs.size≤HH.objs.size
   rw[hC];exact Nat.le_succ _
  ·intro x y c a b
   rcases csq x c a with ⟨a1,a2⟩ | ⟨_,a2⟩ <;> rcases csq y c b with ⟨b1,b2⟩ | ⟨_,b2⟩
   ·rw[a1,b1]
   ·exact absurd (celo y c b2) (by rw[a2];exact Nat.not_lt_of_le leK)
   ·exact absurd (celo x c a2) (by rw[b2];exact Nat.not_lt_of_le leK)
   ·exact I2.ok.inj x y c (hsub x c a2) (hsub y c b2)
  ·intro x hx
   by_cases hk:x=kx
   ·exact⟨_,by rw[hk];exact List.lookup_cons_self⟩
   ·rcases zCl hcell hx with z | z
    ·exact absurd z hk
    ·obtain⟨c,e⟩:=hfree (x,.free) z rfl
     exact⟨c,csl x c hk e⟩
  ·intro x c h1 h2
   have h1':(x == kx)=true:=h1
   rcases csq x c h2 with ⟨_,z⟩ | ⟨z,_⟩
   ·rw[z];exact leK
   ·exact absurd (by simpa using h1') z
  ·intro b hb
   refine⟨(below b (fpold b hb)).1,fun x c e=>?_⟩
   rcases csq x c e with ⟨_,z⟩ | ⟨_,z⟩
   ·rw[z];exact Nat.ne_of_gt (Nat.lt_of_lt_of_le (fpold b hb) leK)
   ·exact (f2 b hb).2.2.2.2.1 x c (hsub x c z)
  ·intro b o e hb
   rcases (f2 b hb).2.2.2.1 with z | z
   ·exact I2.ok.noex b o e z
   ·exact absurd (Nat.lt_of_lt_of_le (Heap.lt_size (I2.ok.bs b o e).1) z) (Nat.lt_irrefl _)
  ·intro b hb hm
   rcases List.mem_cons.mp (I2.stkSub b hm) with z | z
   ·exact (f2 b hb).2.1 z
   ·exact (f2 b hb).2.2.1 z
 have Inv0:Inv X' [(s2.heap.objs.size,zFv [])] (wK cap tgs.length σ) H2 { s2 with heap:=h₁,toks:=s2.toks }:=by
  subst hX
  refine⟨ok',rfl,I2.bare,Un.kept old,⟨_,hns₁,?_⟩,fun x c e=>?_,I2.hok.fresh (by rw[hC];exact Nat.le_succ _),fun x c e=>?_,fun p hp=>?_,I2.hok.kept old,?_⟩
  ·intro j y v e1 e2 e3
   have e1':(cap.map (·.1) ++ tgs)[j]?=some y:=e1
   by_cases hj:j < cap.length
   ·unfold wK at e2
    rw[List.getElem?_append_left (by simpa using hj),List.getElem?_map] at e2
    rw[List.getElem?_append_left (by simpa using hj),List.getElem?_map] at e1'
    rw[List.getElem?_eq_getElem hj] at e1' e2
    have ey:cap[j].1=y:=by simpa using e1'
    have ev:(σ[cap[j].2]?).join=some v:=by simpa using e2
    obtain⟨c1,c2,c3,c,c4⟩:=hcap cap[j] (List.getElem_mem hj)
    have ev':σ[cap[j].2]?=some (some v):=by
     cases q:σ[cap[j].2]? with
     | none=>rw[q] at ev;cases ev
     | some z=>rw[q] at ev;exact congrArg some ev
    rw[ey] at c1 c2 c3 c4
    obtain⟨m,hn,hl'⟩:=I2.loc
    have vis:Vis X.env.scope y:=by
     rcases c2 with c2 | c2
     ·exact .inr (.inl c2)
     ·exact .inr (.inr c2)
    obtain⟨u,ru,lu⟩:=hl' _ y v c1 ev' vis
    refine⟨u,ru,.inr ⟨c3,c,csl y c (ey▸hne _ (List.getElem_mem hj)) c4,?_⟩⟩
    rcases lu with ⟨k,_⟩ | ⟨_,c',e',q⟩
    ·rcases c2 with c2 | c2 <;> (rw[k] at c2;cases c2)
    ·rw[hsub y c c4] at e'
     cases e'
     obtain⟨o,ho,hd⟩:=q
     exact⟨o,old _ _ ho,hd⟩
   ·unfold wK at e2
    rw[List.getElem?_append_right (by simpa using hj),List.getElem?_replicate] at e2
    split at e2 <;> cases e2
  ·rcases csq x c e with ⟨_,z⟩ | ⟨_,z⟩
   ·exact⟨none,z▸hk1⟩
   ·obtain⟨v,o,ho,hd⟩:=I2.cell x c (hsub x c z)
    exact⟨v,o,old _ _ ho,hd⟩
  ·rcases csq x c e with ⟨_,z⟩ | ⟨_,z⟩
   ·rw[z];exact I2.hok.fresh leK
   ·exact I2.freeC x c (hsub x c z)
  ·have hp':p∈([(s2.heap.objs.size,zFv [])]:List (Addr×Obj)):=hp
   obtain rfl:=List.mem_singleton.mp hp'
   refine⟨hacc,I2.hok.fresh (Nat.le_refl _),hDC,fun z=>Nat.lt_irrefl _ (frold _ z),fun v z=>?_⟩
   have z':Data.seq _ _=Data.cell v:=z
   cases z'
  ·show (wK cap tgs.length σ).length=(cap.map (·.1) ++ tgs).length
   unfold wK
   simp
 have fpX:∀ {us:List Value}{H':Hp},(∀ b∈fp,H' b=none)→∀ b∈fp,FpOk X' [(s2.heap.objs.size,zFv us)] H' b:=by
  subst hX
  intro us H' hn b hb
  refine⟨hn b hb,(below b (fpold b hb)).1,fun z=>ok'.exfs b hb z,.inl hb,(ok'.exf b hb).2,fun p hp=>?_⟩
  have hp':p∈([(s2.heap.objs.size,zFv us)]:List (Addr×Obj)):=hp
  obtain rfl:=List.mem_singleton.mp hp'
  exact Ne.symm (below b (fpold b hb)).2
 have eP:X'.prog=X.prog:=by subst hX;rfl
 have eW:X'.w=X.w:=by subst hX;rfl
 have eK:X'.K=X.K:=by subst hX;rfl
 have eA:X'.A=X.A:=by subst hX;rfl
 have eE:X'.env=compEnvC scope ((kx,HH.objs.size+1)::cl) HH.objs.size X.env:=by subst hX;rfl
 have eF:X'.fs=frs X.stack:=by subst hX;rfl
 have eX:X'.ex=fp:=by subst hX;rfl
 have eH:X'.H₀=H2:=by subst hX;rfl
 have eS:X'.s₀=s2:=by subst hX;rfl
 have ec:X'.calm=true:=by subst hX;exact hc
 have epn:X'.pn=[]:=by subst hX;rfl
 have exe:X'.xe=fun _ _=>False:=by subst hX;rfl
 obtain⟨hg,ht,he⟩:PG X' tg g∧PTs X' ifs tc∧PE X' elt te:=by subst hX;exact hb _ _ _ _
 have loop:codeAny (model X.prog X.w) X.A (.compLoop (.ListComp elt [⟨tg,iter,ifs,0⟩] scope pos) 0 (.ref it) (.ref s2.heap.objs.size) (compEnvC scope ((kx,HH.objs.size+1)::cl) HH.objs.size X.env))
   (compPost (model X.prog X.w) X.A X.xe use Qp (.ref s2.heap.objs.size) HH.objs.size) { s2 with heap:=h₁,toks:=s2.toks }:=by
  refine zDs (fun n s'=>∃ i ys us H',Inv X' [(s2.heap.objs.size,zFv us)] (wK cap tgs.length σ) H' s'∧Vals ys us∧ys.length≤sizeLine∧tn i s'.heap∧(∀ b∈fp,H' b=none)∧W i n ys H') ?_ m0
   ⟨0,[],[],H2,Inv0,.nil,Nat.zero_le _,T.keep _ _ _ st2 fun b _ o e=>old b o e,fun b hb=>(f2 b hb).1,w0⟩
  rintro n s3 ⟨i,ys,us,H3,I3,rv,hz,st3,fr3,w3⟩
  rcases turn i n ys H3 w3 with ⟨stop,qn⟩ | ⟨go,hlen,N,hN,step⟩
  ·have d:=T.done X' eP eW eK ec i _ s3 _ H3 (fun _ _=>False) I3 (fpX fr3) st3 stop
   rw[eA] at d
   refine thn d fun r s4 ⟨hr,I4⟩=>?_
   subst hr
   obtain⟨m,hn,_⟩:=id I4.loc
   rw[eE] at hn
   have pD:=I4.pin (s2.heap.objs.size,zFv us) (by rw[epn];simp)
   have fC:H3 HH.objs.size=none:=by have:=I4.free;rw[eE] at this;exact this
   have un:=I4.base
   rw[eF,eX,eH,eS] at un
   have nD:∀ b o,s2.heap.get? b=some o→b≠s2.heap.objs.size:=fun b o e=>(below b (Heap.lt_size e)).2
   have fD2:H2 s2.heap.objs.size=none:=I2.hok.fresh (Nat.le_refl _)
   have leC:s2.heap.objs.size≤HH.objs.size:=by rw[hC];exact Nat.le_succ _
   refine fin s2.heap.objs.size HH.objs.size (upd H3 s2.heap.objs.size (.lst ys)) s4 (I2.call' (ch:=fp) ?_ ?_ ?_ I4.bare ?_)
    ⟨by rw[vA (Ne.symm hDC)];exact fC,Ne.symm (below _ I2.lt).1,Nat.le_trans I2.sz leC,fun x c e=>?_,fun p hp=>(below _ (Heap.lt_size (I2.pin p hp).1)).1,⟨m,hn⟩⟩ (qn _ pD.2.1)
   ·have:=I4.os;rw[eS] at this;exact this
   ·refine⟨un.keep,un.slot,fun b o e n hx=>?_,un.there,fun b xs q=>?_,fun b o u q=>?_,fun b ps q=>?_⟩
    ·rw[vA (nD b o e)];exact un.free b o e n hx
    ·rw[vA (zY q fD2)];exact un.tups b xs q
    ·rw[vA (zY q fD2)];exact un.frzs b o u q
    ·rw[vA (zY q fD2)];exact un.tbls b ps q
   ·have hok:=I4.hok
    rw[eP,eW] at hok
    intro b u e
    by_cases hb:b=s2.heap.objs.size
    ·subst hb
     rw[zD] at e
     cases e
     exact⟨hz,us,us.length,rv,pD.1⟩
    ·rw[vA hb] at e
     exact (hok b u e).stay (fun c v hcc q=>q) (fun c q=>by rw[vA (zY q pD.2.1)];exact q) fun c xs q=>by rw[vA (zY q pD.2.1)];exact q
   ·exact fun b hb=>⟨(f2 b hb).2.2.2.1,(f2 b hb).2.1,(f2 b hb).2.2.2.2.1,(f2 b hb).2.2.2.2.2⟩
   ·obtain⟨v,q⟩:=I2.cell x c e
    exact (below c q.lt).1
  ·have d:=T.item X' eP eW eK ec i _ s3 _ H3 (fun _ _=>False) I3 (fpX fr3) st3 go
   rw[eA] at d
   refine thn d fun r s4 ⟨u,hr,h4⟩=>?_
   subst hr
   refine thn h4 fun _ s5 ⟨x,H5,I5,r5,y5,st5,fr5⟩=>?_
   have I5':=I5.pinned (fpX fr5) (T.obj _ _ st5)
   have a6:=hg _ s5 _ H5 x u _ I5' r5 (hl x _ H5 _ (step x H5 y5))
   rw[eP,eW,eA,eE,exe] at a6
   refine thn a6 fun _ s6 ⟨σ6,H6,I6,⟨kl,kj⟩,q6⟩=>?_
   have a7:=ht _ s6 σ6 H6 _ I6 q6
   rw[eP,eW,eA,eE,exe] at a7
   refine thn a7 fun ok s7 ⟨H7,I7,q7⟩=>?_
   have wk:∀ {pl:List (Addr×Obj)}{H':Hp}{s':Shared},Inv X' pl σ6 H' s'→Inv X' [] (wK cap tgs.length σ) H' s':=fun {pl H' s'} I' =>
    (I'.weak kl.symm fun j v e=>by
     by_cases hj:j < cap.length
     ·rw[kj j hj];exact e
     ·unfold wK at e
      rw[List.getElem?_append_right (by simpa using hj),List.getElem?_replicate] at e
      split at e <;> cases e).zAo fun p hp=>(nomatch hp)
   have keepI:∀ {H':Hp}{s':Shared},Inv X' ([(s2.heap.objs.size,zFv us)] ++ zGs fp s5.heap) σ6 H' s'→(∀ b∈fp,∀ o,s5.heap.get? b=some o→s'.heap.get? b=some o∧H' b=none):=fun {H' s'} I' b hb o e=>by
    have z:=I'.pin (b,o) (by rw[epn];exact List.mem_append_right _ (List.mem_append_right _ (zBc hb e)))
    exact⟨z.1,z.2.1⟩
   cases ok with
   | false =>
    have q7':N ys H7:=q7
    obtain⟨m',hm,w7⟩:=hN _ _ q7'
    have pD:=I7.pin (s2.heap.objs.size,zFv us) (by rw[epn];simp)
    refine⟨m',hm,i+1,ys,us,H7,?_,rv,hz,T.keep _ _ _ st5 fun b hb o e=>(keepI I7 b hb o e).1,fun b hb=>?_,w7⟩
    ·exact (wk I7).zAo fun p hp=>by
      cases List.mem_singleton.mp hp
      exact pD
    ·obtain⟨o,e,_⟩:=T.obj _ _ st5 b hb
     exact (keepI I7 b hb o e).2
   | true =>
    have a8:=he _ s7 σ6 H7 _ I7 q7
    rw[eP,eW,eA,eE,exe] at a8
    refine thn a8 fun uy s8 ⟨y,H8,I8,ry,q8⟩=>?_
    obtain⟨m',hm,w8⟩:=hN _ _ q8
    have pD:=I8.pin (s2.heap.objs.size,zFv us) (by rw[epn];simp)
    refine append_at (hsz:=by show us.toArray.size≤sizeLine;rw[List.size_toArray,← rv.length];exact hz) pD.1 fun h9 hs9 hD9=>?_
    have fpD:∀ b∈fp,b≠s2.heap.objs.size:=fun b hb=>(below b (fpold b hb)).2
    have I9:Inv X' [] (wK cap tgs.length σ) H8 { s8 with heap:=h9 }:=(wk I8).turned (t':=s8.toks) (it:=s2.heap.objs.size) (fun b o hb e=>(hs9.2 b hb).trans e) pD.2.1 pD.2.2.1 (.inr (by rw[eS];exact Nat.le_refl _))
     (fun x c e z=>by
      rw[eE] at e
      rcases csq x c e with ⟨_,y⟩ | ⟨_,y⟩
      ·have:HH.objs.size+1=s2.heap.objs.size:=y▸z
       omega
      ·exact absurd (celo x c y) (by rw[z];exact Nat.lt_irrefl _)) (fun p hp=>by rw[epn] at hp;exact (nomatch hp))
    refine⟨m',hm,i+1,ys ++ [y],us ++ [uy],H8,?_,rv.append (.cons ry .nil),by rw[List.length_append,List.length_singleton];exact hlen,T.keep _ _ _ st5 fun b hb o e=>(hs9.2 b (fpD b hb)).trans (keepI I8 b hb o e).1,fun b hb=>?_,w8⟩
    ·refine I9.zAo fun p hp=>?_
     cases List.mem_singleton.mp hp
     refine⟨?_,pD.2.1,pD.2.2.1,pD.2.2.2.1,fun v z=>?_⟩
     ·show h9.get? _=some (zFv (us ++ [uy]))
      rw[hD9]
      show some ({ cls:=.type "list",data:=.seq (us.toArray.push uy) (us.length+1) }:Obj)=some { cls:=.type "list",data:=.seq (us ++ [uy]).toArray (us ++ [uy]).length }
      rw[List.push_toArray,List.length_append,List.length_singleton]
     ·have z':Data.seq _ _=Data.cell v:=z
      cases z'
    ·obtain⟨o,e,_⟩:=T.obj _ _ st5 b hb
     exact (keepI I8 b hb o e).2
 exact codeAny_compStart_list loop (T.self _ 0 _ _ _ (T.keep _ _ _ st2 fun b _ o e=>old b o e) loop)
theorem ps_setcomp1 {X:Cx}{kx:Str}{elt iter tg:Expr}{ifs:List Expr}{scope:Scope}{pos py spos:Pos}{y:Str}{i:Nat}{cl:List (Str×Addr)}{cap:List (Str×Nat)}{tgs:List Str}{wi:TI}{g:TG}{tc:TT}{te:TE}
  (hN:X.N.Nodup)(hiy:X.N[i]?=some y)(hy:Loc X.env.scope y)
  (hc:X.calm=true)(hclos:closureFor scope X.env=pure cl)(hkind:scope.kind=.function)
  (hnames:∀ x∈scope.names,x.2=.local→scope.names.lookup x.1=some .local)(hcell:∀ y∈scope.names,y.2=.cell→y.1=kx)(hcf:∀ i,cellsFrom i scope.names cl=(kx,i)::cl)(hpc:∀ h:Heap,pushCells h scope.names=h.push { cls:=.type "cell",data:=.cell none })(hne:∀ p∈cap,p.1≠kx)
  (hfree:∀ y∈scope.names,y.2=.free→∃ c,cl.lookup y.1=some c)
  (hsub:∀ x c,cl.lookup x=some c→X.env.cells.lookup x=some c)
  (hcap:∀ p∈cap,X.N[p.2]?=some p.1∧(X.env.kindOf p.1=some .cell∨X.env.kindOf p.1=some .free)∧((relabel scope X.env).names.lookup p.1=some .cell∨(relabel scope X.env).names.lookup p.1=some .free)∧∃ c,cl.lookup p.1=some c)
  (hl:zDt cap.length g)(hi:PI X tg iter wi)
  (hb:∀ C s H fp,PG (zBx X scope kx cl (cap.map (·.1) ++ tgs) C s H fp) tg g∧PTs (zBx X scope kx cl (cap.map (·.1) ++ tgs) C s H fp) ifs tc∧PE (zBx X scope kx cl (cap.map (·.1) ++ tgs) C s H fp) elt te)
  (hs:∀ x,foldedSetIterable iter X.env x=pure x:=by intro _;rfl)
  (hsw:swapsWith (.ListComp elt [⟨tg,iter,ifs,0⟩] scope pos) (some (.Name y py)) spos.line X.env=pure true:=by rfl)
  (hf:X.fn y=true∨X.env.scope.names.lookup y=some .local:=by first | exact .inl rfl | exact .inr rfl | assumption) :
  PS X (.Assign [.Name y py] (.ListComp elt [⟨tg,iter,ifs,0⟩] scope pos) spos) (tAsg (tComp cap tgs.length wi g tc te) (jG i)):=by
 intro pins s σ H D I h
 rw[exec_Assign_Name_used _ _ _ _ hsw];refine wpAny_bind (wpAny_standAt (wpAny_bind ?_))
 show wpAny _ X.A (do let _ ← comprehension (.ListComp elt [⟨tg,iter,ifs,0⟩] scope pos) scope X.env _ (newList []) false (eval iter X.env) (some (assign (.Name y py) X.env))) _ _ s
 refine wpAny_bind (wpAny_mono (comp_core1 (use:=some (assign (.Name y py) X.env)) (Qp:=fun _ s'=>SP X pins D .next s') hc hclos hkind hnames hcell hcf hpc hne hfree hsub hcap hl hi hb hs I h fun D' C H' s' I' f q=>?_) (fun _ s' hq=>wpAny_pure (wpAny_pure hq)) fun _ _ e=>e)
 show wpAny _ X.A (assign (.Name y py) X.env (.ref D')) _ _ _
 refine wpAny_assign_Name (zEz I' hN hiy hy (v:=.ref D') rfl (fun s'' I'' ⟨a,sa,ha⟩=>?_) hf)
 obtain⟨m,hn⟩:=f.ns
 have hCa:C≠a:=by
  rcases ha with z | z
  ·rw[z];exact f.loc
  ·exact Ne.symm (f.cel _ _ z)
 have f'':Fin X pins H' s'' C:=⟨f.none,f.loc,f.sz,f.cel,f.pin,⟨m,hn.sameBut sa hCa⟩⟩
 exact⟨m,hn.sameBut sa hCa,fun h' sb=>⟨_,H',f''.go I'' sb,q⟩⟩
end L2
namespace K36
open PySem L2
def top (i:Nat):Stmt:=PySem.Challenge.pw_evenhub_k36_made_of_steps.main.body.getD i (.Pass ⟨0,0,0,0⟩)
abbrev zFl:Stmt:=top 6
theorem zGn:zR ["one","other","great","small","left"] ["one","other"] (zJ zFl):=⟨rfl,rfl,rfl,by decide +kernel,rfl,by decide +kernel,by decide +kernel⟩
abbrev s_joint:Stmt:=top 7
theorem sc_joint:zR ["one","other"] ["one","other"] (zJ s_joint):=⟨rfl,rfl,rfl,by decide +kernel,rfl,by decide +kernel,by decide +kernel⟩
abbrev s_euclid:Stmt:=top 8
theorem sc_euclid:zR ["one","other","bits","rests","counts","turn"] ["one","other","bits"] (zJ s_euclid):=⟨rfl,rfl,rfl,by decide +kernel,rfl,by decide +kernel,by decide +kernel⟩
abbrev zBv:Stmt:=top 9
theorem zDy:zR ["pair","turn"] ["pair","turn"] (zJ zBv):=⟨rfl,rfl,rfl,by decide +kernel,rfl,by decide +kernel,by decide +kernel⟩
abbrev zBs:Stmt:=top 10
theorem zEa:zR ["rests","bits","length","behind","turn"] ["rests","bits"] (zJ zBs):=⟨rfl,rfl,rfl,by decide +kernel,rfl,by decide +kernel,by decide +kernel⟩
abbrev zCa:Stmt:=top 11
theorem zDj:zR ["rest","later_rest","turn","many","new_rest","further","doubt"] ["rest","later_rest"] (zJ zCa):=⟨rfl,rfl,rfl,by decide +kernel,rfl,by decide +kernel,by decide +kernel⟩
abbrev s_hung:Stmt:=top 13
theorem sc_hung:zR ["n","hole","weight","outcome"] ["n","hole","weight"] (zJ s_hung):=⟨rfl,rfl,rfl,by decide +kernel,rfl,by decide +kernel,by decide +kernel⟩
abbrev zBz:Stmt:=top 14
theorem zDu:zR ["one","other"] ["one","other"] (zJ zBz):=⟨rfl,rfl,rfl,by decide +kernel,rfl,by decide +kernel,by decide +kernel⟩
abbrev s_parts:Stmt:=top 16
theorem sc_parts:zR ["n","found","left","p","q"] ["n"] (zJ s_parts):=⟨rfl,rfl,rfl,by decide +kernel,rfl,by decide +kernel,by decide +kernel⟩
abbrev j9:Stmt:=top 17
theorem zBj:zR ["n","p","q"] ["n","p"] (zJ j9):=⟨rfl,rfl,rfl,by decide +kernel,rfl,by decide +kernel,by decide +kernel⟩
abbrev s_back:Stmt:=top 18
theorem sc_back:zR ["step","n","told"] ["step","n"] (zJ s_back):=⟨rfl,rfl,rfl,by decide +kernel,rfl,by decide +kernel,by decide +kernel⟩
abbrev zFs:Stmt:=top 20
theorem zGj:zR ["load","weights"] ["load","weights"] (zJ zFs):=⟨rfl,rfl,rfl,by decide +kernel,rfl,by decide +kernel,by decide +kernel⟩
abbrev s_picked:Stmt:=top 23
theorem sc_picked:zR ["things","places"] ["things","places"] (zJ s_picked):=⟨rfl,rfl,rfl,by decide +kernel,rfl,by decide +kernel,by decide +kernel⟩
abbrev s_spread:Stmt:=top 24
theorem sc_spread:zR ["size","places","numbers","outcome","place","number"] ["size","places","numbers"] (zJ s_spread):=⟨rfl,rfl,rfl,by decide +kernel,rfl,by decide +kernel,by decide +kernel⟩
abbrev zEw:Stmt:=top 25
theorem zGh:zR ["rows"] ["rows"] (zJ zEw):=⟨rfl,rfl,rfl,by decide +kernel,rfl,by decide +kernel,by decide +kernel⟩
abbrev zCg:Stmt:=top 26
theorem zDf:zR ["rows","column"] ["rows","column"] (zJ zCg):=⟨rfl,rfl,rfl,by decide +kernel,rfl,by decide +kernel,by decide +kernel⟩
abbrev zEk:Stmt:=top 27
theorem zGk:zR ["steps","prime","found","number","step","left","column"] ["steps","prime"] (zJ zEk):=⟨rfl,rfl,rfl,by decide +kernel,rfl,by decide +kernel,by decide +kernel⟩
abbrev zEt:Stmt:=top 28
theorem zGq:zR ["step","found","prime","left","number","column","row"] ["step","found","prime"] (zJ zEt):=⟨rfl,rfl,rfl,by decide +kernel,rfl,by decide +kernel,by decide +kernel⟩
abbrev jS:Stmt:=top 29
theorem zAq:zR ["row","column","number"] ["row"] (zJ jS):=⟨rfl,rfl,rfl,by decide +kernel,rfl,by decide +kernel,by decide +kernel⟩
abbrev zDb:Stmt:=top 30
theorem zFt:zR ["row","many","other","modulus"] ["row","many","other","modulus"] (zJ zDb):=⟨rfl,rfl,rfl,by decide +kernel,rfl,by decide +kernel,by decide +kernel⟩
abbrev j5:Stmt:=top 31
theorem zBn:zR ["row","many","modulus"] ["row","many","modulus"] (zJ j5):=⟨rfl,rfl,rfl,by decide +kernel,rfl,by decide +kernel,by decide +kernel⟩
abbrev zAd:Stmt:=top 32
theorem zBp:zR ["rows","modulus","size","left","column","lead"] ["rows","modulus"] (zJ zAd):=⟨rfl,rfl,rfl,by decide +kernel,rfl,by decide +kernel,by decide +kernel⟩
abbrev s_solved:Stmt:=top 33
theorem sc_solved:zR ["rows","undoing","modulus","goal","rests","told","left","scale","many","count","more"] ["rows","undoing","modulus","goal"] (zJ s_solved):=⟨rfl,rfl,rfl,by decide +kernel,rfl,by decide +kernel,by decide +kernel⟩
abbrev zAh:Stmt:=top 34
theorem zBi:zR ["rows","goal","told"] ["rows","goal","told"] (zJ zAh):=⟨rfl,rfl,rfl,by decide +kernel,rfl,by decide +kernel,by decide +kernel⟩
abbrev zCh:Stmt:=top 35
theorem zDw:zR ["rests","scale","bits","bottom","number"] ["rests","scale"] (zJ zCh):=⟨rfl,rfl,rfl,by decide +kernel,rfl,by decide +kernel,by decide +kernel⟩
abbrev jQ:Stmt:=top 36
theorem zAs:zR ["number","scale","bits"] ["number","scale","bits"] (zJ jQ):=⟨rfl,rfl,rfl,by decide +kernel,rfl,by decide +kernel,by decide +kernel⟩
abbrev zFu:Stmt:=top 37
theorem zGi:zR ["number","scale","rest"] ["number","scale"] (zJ zFu):=⟨rfl,rfl,rfl,by decide +kernel,rfl,by decide +kernel,by decide +kernel⟩
abbrev s_reach:Stmt:=top 40
theorem sc_reach:zR ["steps","goal","prime","told"] ["steps","goal"] (zJ s_reach):=⟨rfl,rfl,rfl,by decide +kernel,rfl,by decide +kernel,by decide +kernel⟩
abbrev zAz:Stmt:=top 41
theorem zCn:zR ["number","found"] ["number"] (zJ zAz):=⟨rfl,rfl,rfl,by decide +kernel,rfl,by decide +kernel,by decide +kernel⟩
abbrev zCx:Stmt:=top 42
theorem zEn:zR ["steps","goal","told"] ["steps","goal","told"] (zJ zCx):=⟨rfl,rfl,rfl,by decide +kernel,rfl,by decide +kernel,by decide +kernel⟩
abbrev s_summed:Stmt:=top 43
theorem sc_summed:zR ["steps","counts","size","outcome","step","many"] ["steps","counts","size"] (zJ s_summed):=⟨rfl,rfl,rfl,by decide +kernel,rfl,by decide +kernel,by decide +kernel⟩
abbrev wR:Stmt:=top 44
theorem jW:zR ["steps","bar","number","step"] ["steps","bar"] (zJ wR):=⟨rfl,rfl,rfl,by decide +kernel,rfl,by decide +kernel,by decide +kernel⟩
abbrev zFq:Stmt:=top 45
theorem zGu:zR ["modulus","number"] ["modulus","number"] (zJ zFq):=⟨rfl,rfl,rfl,by decide +kernel,rfl,by decide +kernel,by decide +kernel⟩
abbrev s_sought:Stmt:=top 46
theorem sc_sought:zR ["steps","goal","prime","frame","column","told","weights"] ["steps","goal","prime"] (zJ s_sought):=⟨rfl,rfl,rfl,by decide +kernel,rfl,by decide +kernel,by decide +kernel⟩
abbrev jF:Stmt:=top 47
theorem zAi:zR ["steps","frame","goal_made","others","told","number"] ["steps","frame","goal_made"] (zJ jF):=⟨rfl,rfl,rfl,by decide +kernel,rfl,by decide +kernel,by decide +kernel⟩
abbrev zAc:Stmt:=top 48
theorem zBh:zR ["others","steps","frame","goal_made","modulus","number","made","rows","goal","leads","left","column","lead","taken","spared","counts"] ["others","steps","frame","goal_made"] (zJ zAc):=⟨rfl,rfl,rfl,by decide +kernel,rfl,by decide +kernel,by decide +kernel⟩
abbrev jO:Stmt:=top 49
theorem zAy:zR ["made","modulus"] ["made","modulus"] (zJ jO):=⟨rfl,rfl,rfl,by decide +kernel,rfl,by decide +kernel,by decide +kernel⟩
abbrev zCy:Stmt:=top 50
theorem zEl:zR ["rows","size","modulus","leads","number","row"] ["rows","size","modulus"] (zJ zCy):=⟨rfl,rfl,rfl,by decide +kernel,rfl,by decide +kernel,by decide +kernel⟩
abbrev zFe:Stmt:=top 51
theorem zGy:zR ["leads","row","modulus","outcome","left","column","lead","told","many"] ["leads","row","modulus"] (zJ zFe):=⟨rfl,rfl,rfl,by decide +kernel,rfl,by decide +kernel,by decide +kernel⟩
abbrev s_mixed:Stmt:=top 52
theorem sc_mixed:zR ["one","many","other","more","modulus"] ["one","many","other","more","modulus"] (zJ s_mixed):=⟨rfl,rfl,rfl,by decide +kernel,rfl,by decide +kernel,by decide +kernel⟩
abbrev zFp:Stmt:=top 53
theorem zGe:zR ["leads","column","modulus","amounts","place","lead","later"] ["leads","column","modulus"] (zJ zFp):=⟨rfl,rfl,rfl,by decide +kernel,rfl,by decide +kernel,by decide +kernel⟩
abbrev zCi:Stmt:=top 54
theorem zDo:zR ["frame","amounts","told"] ["frame","amounts"] (zJ zCi):=⟨rfl,rfl,rfl,by decide +kernel,rfl,by decide +kernel,by decide +kernel⟩
abbrev j7:Stmt:=top 56
theorem zBk:zR ["script","k"] ["script","k"] (zJ j7):=⟨rfl,rfl,rfl,by decide +kernel,rfl,by decide +kernel,by decide +kernel⟩
abbrev zCd:Stmt:=top 57
theorem zDi:zR ["found"] ["found"] (zJ zCd):=⟨rfl,rfl,rfl,by decide +kernel,rfl,by decide +kernel,by decide +kernel⟩
abbrev j0:Stmt:=top 58
theorem zBq:zR ["found","many"] ["found","many"] (zJ j0):=⟨rfl,rfl,rfl,by decide +kernel,rfl,by decide +kernel,by decide +kernel⟩
abbrev zFg:Stmt:=top 59
theorem zGl:zR ["row","weights","total","one","many"] ["row","weights"] (zJ zFg):=⟨rfl,rfl,rfl,by decide +kernel,rfl,by decide +kernel,by decide +kernel⟩
abbrev zFd:Stmt:=top 60
theorem zHe:zR ["found","steps","goal","k"] ["found","steps","goal"] (zJ zFd):=⟨rfl,rfl,rfl,by decide +kernel,rfl,by decide +kernel,by decide +kernel⟩
abbrev wT:Stmt:=top 61
theorem jT:zR ["cells","total","most","numbers","k","at","number"] ["cells","total","most"] (zJ wT):=⟨rfl,rfl,rfl,by decide +kernel,rfl,by decide +kernel,by decide +kernel⟩
abbrev zBw:Stmt:=top 62
theorem zDp:zR ["cell"] ["cell"] (zJ zBw):=⟨rfl,rfl,rfl,by decide +kernel,rfl,by decide +kernel,by decide +kernel⟩
abbrev jB:Stmt:=top 63
theorem zAk:zR ["cells","many","counts","k","number"] ["cells","many"] (zJ jB):=⟨rfl,rfl,rfl,by decide +kernel,rfl,by decide +kernel,by decide +kernel⟩
abbrev s_law:Stmt:=top 64
theorem sc_law:zR ["script","many","wide","most","numbers","steps","counts","goal","found"] ["script"] (zJ s_law):=⟨rfl,rfl,rfl,by decide +kernel,rfl,by decide +kernel,by decide +kernel⟩
abbrev zAx:Stmt:=inClass (top 22) 0
theorem zCp:zR ["self","steps","size","prime"] ["self","steps","size","prime"] (zJ zAx):=⟨rfl,rfl,rfl,by decide +kernel,rfl,by decide +kernel,by decide +kernel⟩
abbrev jM:Stmt:=inClass (top 22) 1
theorem zAw:zR ["self","goal"] ["self","goal"] (zJ jM):=⟨rfl,rfl,rfl,by decide +kernel,rfl,by decide +kernel,by decide +kernel⟩
abbrev jP:Stmt:=inClass (top 22) 2
theorem zAv:zR ["self","goal"] ["self","goal"] (zJ jP):=⟨rfl,rfl,rfl,by decide +kernel,rfl,by decide +kernel,by decide +kernel⟩
abbrev jE:Stmt:=inClass (top 22) 3
theorem zAj:zR ["self","amounts","told"] ["self","amounts"] (zJ jE):=⟨rfl,rfl,rfl,by decide +kernel,rfl,by decide +kernel,by decide +kernel⟩
structure Txt (K:PySem.W.Frag)(mg:Str→Option Value)(C_Frame:Addr)(t_LEAD_BITS:Tok)(t_FIRST_PRIME:Tok):Prop where
 g_LEAD_BITS:mg "LEAD_BITS"=some (.int 128 t_LEAD_BITS)
 g_FIRST_PRIME:mg "FIRST_PRIME"=some (.int 1000000007 t_FIRST_PRIME)
 c_Frame:mg "Frame"=some (.ref C_Frame)
 d_divisor:Dn K mg "divisor" zFl ["one","other"]
 d_joint:Dn K mg "joint" s_joint ["one","other"]
 d_euclid:Dn K mg "euclid" s_euclid ["one","other","bits"]
 d_turned_on:Dn K mg "turned_on" zBv ["pair","turn"]
 d_next_turn:Dn K mg "next_turn" zBs ["rests","bits"]
 d_sure_turn:Dn K mg "sure_turn" zCa ["rest","later_rest"]
 d_hung:Dn K mg "hung" s_hung ["n","hole","weight"]
 d_check_fit:Dn K mg "check_fit" zBz ["one","other"]
 d_parts:Dn K mg "parts" s_parts ["n"]
 d_prime_power:Dn K mg "prime_power" j9 ["n","p"]
 d_back:Dn K mg "back" s_back ["step","n"]
 d_weighed:Dn K mg "weighed" zFs ["load","weights"]
 d_picked:Dn K mg "picked" s_picked ["things","places"]
 d_spread:Dn K mg "spread" s_spread ["size","places","numbers"]
 d_flipped:Dn K mg "flipped" zEw ["rows"]
 d_column_of:Dn K mg "column_of" zCg ["rows","column"]
 d_corners:Dn K mg "corners" zEk ["steps","prime"]
 d_cleared:Dn K mg "cleared" zEt ["step","found","prime"]
 d_first_filled:Dn K mg "first_filled" jS ["row"]
 d_lessened:Dn K mg "lessened" zDb ["row","many","other","modulus"]
 d_taken_times:Dn K mg "taken_times" j5 ["row","many","modulus"]
 d_undone_rows:Dn K mg "undone_rows" zAd ["rows","modulus"]
 d_solved:Dn K mg "solved" s_solved ["rows","undoing","modulus","goal"]
 d_is_solution:Dn K mg "is_solution" zAh ["rows","goal","told"]
 d_fractions:Dn K mg "fractions" zCh ["rests","scale"]
 d_least_bottom:Dn K mg "least_bottom" jQ ["number","scale","bits"]
 d_centred:Dn K mg "centred" zFu ["number","scale"]
 d_reach:Dn K mg "reach" s_reach ["steps","goal"]
 d_next_prime:Dn K mg "next_prime" zAz ["number"]
 d_is_shown:Dn K mg "is_shown" zCx ["steps","goal","told"]
 d_summed:Dn K mg "summed" s_summed ["steps","counts","size"]
 d_first_unbarred:Dn K mg "first_unbarred" wR ["steps","bar"]
 d_divides:Dn K mg "divides" zFq ["modulus","number"]
 d_sought:Dn K mg "sought" s_sought ["steps","goal","prime"]
 d_sought_within:Dn K mg "sought_within" jF ["steps","frame","goal_made"]
 d_sought_with:Dn K mg "sought_with" zAc ["others","steps","frame","goal_made"]
 d_whole_counts:Dn K mg "whole_counts" jO ["made","modulus"]
 d_leads_of:Dn K mg "leads_of" zCy ["rows","size","modulus"]
 d_entered:Dn K mg "entered" zFe ["leads","row","modulus"]
 d_mixed:Dn K mg "mixed" s_mixed ["one","many","other","more","modulus"]
 d_barring:Dn K mg "barring" zFp ["leads","column","modulus"]
 d_inner_bar:Dn K mg "inner_bar" zCi ["frame","amounts"]
 d_law_cell_at:Dn K mg "_law_cell_at" j7 ["script","k"]
 d_law_whole:Dn K mg "_law_whole" zCd ["found"]
 d_law_numbers:Dn K mg "_law_numbers" j0 ["found","many"]
 d_law_sum:Dn K mg "_law_sum" zFg ["row","weights"]
 d_law_way:Dn K mg "_law_way" zFd ["found","steps","goal"]
 d_law_numbers_by:Dn K mg "_law_numbers_by" wT ["cells","total","most"]
 d_law_shape:Dn K mg "_law_shape" zBw ["cell"]
 d_law_counts_by:Dn K mg "_law_counts_by" jB ["cells","many"]
 cl_Frame:Cls K C_Frame
 na_size:jL K C_Frame "size"
 na_prime:jL K C_Frame "prime"
 na_found:jL K C_Frame "found"
 na_chosen:jL K C_Frame "chosen"
 na_columns:jL K C_Frame "columns"
 na_rows:jL K C_Frame "rows"
 na_modulus:jL K C_Frame "modulus"
 na_undoing:jL K C_Frame "undoing"
 m_Frame_init:Kn K mg C_Frame "Frame" "Frame.__init__" zAx ["self","steps","size","prime"]
 m_Frame_missed:Mn K C_Frame "missed" "Frame.missed" jM ["self","goal"]
 m_Frame_counts:Mn K C_Frame "counts" "Frame.counts" jP ["self","goal"]
 m_Frame_weights:Mn K C_Frame "weights" "Frame.weights" jE ["self","amounts"]
 b_len:mg "len"=none
 b_isinstance:mg "isinstance"=none
 b_int:mg "int"=none
 b_bool:mg "bool"=none
 b_list:mg "list"=none
 b_tuple:mg "tuple"=none
 b_range:mg "range"=none
 b_min:mg "min"=none
 b_max:mg "max"=none
 b_abs:mg "abs"=none
 b_zip:mg "zip"=none
 b_all:mg "all"=none
 b_enumerate:mg "enumerate"=none
 b_sum:mg "sum"=none
section
variable {C_Frame:Addr}{t_LEAD_BITS t_FIRST_PRIME:Tok}{P:Program}{w:World}{K:PySem.W.Frag}{mg:Str→Option Value}{base:Heap}
def spLaw (K:PySem.W.Frag):Sp:=fun vs H Q _=>∃ (a:Addr)(ns:List Int),vs=[.ref a]∧SqL K H a (ns.map V.int)∧ns.length≤63∧∀ H',Q (.bl true) H'
def spHung:Sp:=fun vs H Q _=>∃ (m:Nat)(h w:Int),vs=[.int m,.int h,.int w]∧1≤m∧m≤420∧∀ r H',zN H H'→H r=none→H' r=some (.lst ((Ld.hung m h w).map V.int))→Q (.ref r) H'
theorem ok_hung (T:Txt K mg C_Frame t_LEAD_BITS t_FIRST_PRIME):Df P w K mg base 1 "hung" ["n","hole","weight"] spHung:=by
 refine T.d_hung.ok sc_hung (fun vs H Q E h=>?_) (fun f cdv A outer s H vs Q E hr h=>?_)
 ·obtain⟨_,_,_,rfl,_⟩:=h;rfl
 obtain⟨m,x,v,rfl,m1,m2,q⟩:=h
 have nd:=sc_hung.nd
 refine⟨_,(zB (zM (i:=3) nd rfl (Or.inl rfl) (zK zEx (wV (zA zE zC)) (pv 0))) (zB (zCr (pv 2) (zDl (pv 3) (zK vR (pv 1) (pv 0)) set_list)) (zI (zU (pv 3))))),?_⟩
 refine⟨(by show 1≤sizeLine;decide),fun l hl=>⟨_,rfl,l,_,_,rfl,rfl,zD,by omega,by omega,(by show 1*_≤_;exact zAu (by omega)),fun p hp=>?_⟩⟩
 have lp:l≠p:=zY zD hp
 have hp0:H p=none:=by rwa [vA (Ne.symm lp)] at hp
 rw[rep0]
 refine⟨_,rfl,_,rfl,_,rfl,_,rfl,_,_,rfl,rfl,by omega,p,_,_,_,rfl,rfl,zD,ixN_mod (mlen (by simp)) (by omega) x,?_⟩
 refine⟨_,rfl,q p _ (vT (vT (vT (zN.refl H) hl) hp0) hp0) hp0 ?_⟩
 rw[zD,set_int];rfl
def spFit (K:PySem.W.Frag):Sp:=fun vs H Q _=>∃ (a b:Addr)(xs ys:List V),vs=[.ref a,.ref b]∧SqL K H a xs∧SqL K H b ys∧xs.length=ys.length∧Q .non H
theorem ok_check_fit (T:Txt K mg C_Frame t_LEAD_BITS t_FIRST_PRIME):Df P w K mg base 1 "check_fit" ["one","other"] (spFit K):=by
 refine T.d_check_fit.ok zDu (fun vs H Q E h=>?_) (fun f cdv A outer s H vs Q E hr h=>?_)
 ·obtain⟨_,_,_,_,rfl,_⟩:=h;rfl
 obtain⟨a,b,xs,ys,rfl,ha,hb,e,q⟩:=h
 have nd:=zDu.nd
 refine⟨_,(zI (wJ (vF zGc (zT zS (by rfl) T.b_len L2.v6 (zA (pv 0) zC)) (zT zS (by rfl) T.b_len L2.v6 (zA (pv 1) zC)) (vM _)) (zI ps_never) vQ)),?_⟩
 refine⟨_,rfl,a,_,rfl,.inl ha,_,rfl,b,_,rfl,.inl hb,rfl,_,rfl,?_⟩
 refine zCs (fun c=>?_) (fun c=>q)
 exact vne c (by rw[e])
def spTurn4:Sp:=fun vs H Q _=>∃ (r1 r2:Addr)(x y a b c d:Int)(N:Nat),vs=[.ref r1,.ref r2]∧H r1=some (.tup [.int x,.int y])∧H r2=some (.tup [.int a,.int b,.int c,.int d])∧N≤9000∧(x.natAbs < 2^N∧y.natAbs < 2^N∧a.natAbs < 2^N∧b.natAbs < 2^N∧c.natAbs < 2^N∧d.natAbs < 2^N)∧∀ t,H t=none→Q (.ref t) (upd H t (.tup [.int (a*x+b*y),.int (c*x+d*y)]))
theorem ok_turned_on (T:Txt K mg C_Frame t_LEAD_BITS t_FIRST_PRIME):Df P w K mg base 1 "turned_on" ["pair","turn"] spTurn4:=by
 refine T.d_turned_on.ok zDy (fun vs H Q E h=>?_) (fun f cdv A outer s H vs Q E hr h=>?_)
 ·obtain⟨_,_,_,_,_,_,_,_,_,rfl,_⟩:=h;rfl
 obtain⟨r1,r2,x,y,a,b,c,d,N,rfl,h1,h2,hN,⟨fx,fy,fa,fb,fc,fd'⟩,q⟩:=h
 have nd:=zDy.nd
 have p0:atI [V.int x,V.int y] 0=some (.int x):=rfl
 have p1:atI [V.int x,V.int y] 1=some (.int y):=rfl
 have t0:atI [V.int a,V.int b,V.int c,V.int d] 0=some (.int a):=rfl
 have t1:atI [V.int a,V.int b,V.int c,V.int d] 1=some (.int b):=rfl
 have t2:atI [V.int a,V.int b,V.int c,V.int d] 2=some (.int c):=rfl
 have t3:atI [V.int a,V.int b,V.int c,V.int d] 3=some (.int d):=rfl
 refine⟨_,(zI (zU (wE (zA (zK vU (zK vG (vC vD (pv 1) zE (fun _ _=>rfl)) (vC vD (pv 0) zE (fun _ _=>rfl))) (zK vG (vC vD (pv 1) zE (fun _ _=>rfl)) (vC vD (pv 0) zE (fun _ _=>rfl)))) (zA (zK vU (zK vG (vC vD (pv 1) zE (fun _ _=>rfl)) (vC vD (pv 0) zE (fun _ _=>rfl))) (zK vG (vC vD (pv 1) zE (fun _ _=>rfl)) (vC vD (pv 0) zE (fun _ _=>rfl)))) zC))))),?_⟩
 refine⟨_,rfl,r2,_,_,_,rfl,rfl,SqT.of h2,t0,_,rfl,r1,_,_,_,rfl,rfl,SqT.of h1,p0,_,_,rfl,rfl,zDn fa fx (by omega),_,rfl,r2,_,_,_,rfl,rfl,SqT.of h2,t1,_,rfl,r1,_,_,_,rfl,rfl,SqT.of h1,p1,_,_,rfl,rfl,zDn fb fy (by omega),_,_,rfl,rfl,?_⟩
 exact⟨_,rfl,r2,_,_,_,rfl,rfl,SqT.of h2,t2,_,rfl,r1,_,_,_,rfl,rfl,SqT.of h1,p0,_,_,rfl,rfl,zDn fc fx (by omega),_,rfl,r2,_,_,_,rfl,rfl,SqT.of h2,t3,_,rfl,r1,_,_,_,rfl,rfl,SqT.of h1,p1,_,_,rfl,rfl,zDn fd' fy (by omega),_,_,rfl,rfl,(by show 2≤sizeLine;decide),q⟩
theorem div9 {i j:Int}{N:Nat}(h0:0 < j)(h:j.natAbs < 2^N)(hN:N≤9000):CDivB i j:=by
 refine⟨h0,?_⟩
 have:=(Nat.log2_lt (show j.natAbs≠0 by omega)).mpr h
 omega
theorem ab_max {u v d:Int}(h:d=if (if v < 0 then -v else v) > (if u < 0 then -u else u) then (if v < 0 then -v else v) else (if u < 0 then -u else u)):(u.natAbs:Int)≤d∧(v.natAbs:Int)≤d:=by
 have hv:(if v < 0 then -v else v)=v.natAbs:=by split <;> omega
 have hu:(if u < 0 then -u else u)=u.natAbs:=by split <;> omega
 rw[hv,hu] at h
 split at h <;> omega
def spSure:Sp:=fun vs H Q _=>∃ (A B:Int)(h N:Nat),vs=[.int (A/2^h),.int (B/2^h)]∧0≤A∧0 < B∧1≤N∧N≤9000∧A < 2^N∧B < 2^N ∧
 ∀ t H' (x y z w:Int),zN H H'→H' t=some (.tup [.int x,.int y,.int z,.int w])→Eb.Tn A B x y z w→((x=1∧y=0∧z=0∧w=1)∨2^h≤z*A+w*B)→(x.natAbs < 2^N∧y.natAbs < 2^N∧z.natAbs < 2^N∧w.natAbs < 2^N)→Q (.ref t) H'
theorem ok_sure_turn (T:Txt K mg C_Frame t_LEAD_BITS t_FIRST_PRIME):Df P w K mg base 1 "sure_turn" ["rest","later_rest"] spSure:=by
 refine T.d_sure_turn.ok zDj (fun vs H Q E h=>?_) (fun f cdv A outer s H vs Q E hr h=>?_)
 ·obtain⟨_,_,_,_,rfl,_⟩:=h;rfl
 obtain⟨A0,B0,hh,N,rfl,a0,b0,N1,N2,fA,fB,q⟩:=h
 have nd:=zDj.nd
 obtain⟨HH,hHH⟩:∃ HH:Int,HH=2^hh:=⟨_,rfl⟩
 obtain⟨W,hW⟩:∃ W:Nat,W=2^N:=⟨_,rfl⟩
 have H1:1≤HH:=by rw[hHH];exact Int.pow_pos (by decide)
 have W2:2≤W:=by rw[hW];exact Nat.pow_le_pow_right (n:=2) (by decide) N1
 have fA':A0 < W:=by rw[hW];exact_mod_cast fA
 have fB':B0 < W:=by rw[hW];exact_mod_cast fB
 rw[← hHH]
 have eA:A0=A0/HH*HH+A0%HH:=by have:=Int.emod_add_mul_ediv A0 HH;rw[Int.mul_comm] at this;omega
 have eB:B0=B0/HH*HH+B0%HH:=by have:=Int.emod_add_mul_ediv B0 HH;rw[Int.mul_comm] at this;omega
 have mA0:=Int.emod_nonneg A0 (show HH≠0 by omega)
 have mA1:=Int.emod_lt_of_pos A0 (show 0 < HH by omega)
 have mB0:=Int.emod_nonneg B0 (show HH≠0 by omega)
 have mB1:=Int.emod_lt_of_pos B0 (show 0 < HH by omega)
 have da0:=Int.ediv_nonneg a0 (show 0≤HH by omega)
 have db0:=Int.ediv_nonneg (show 0≤B0 by omega) (show 0≤HH by omega)
 have da1:=Int.ediv_le_self (a:=A0) HH a0
 have db1:=Int.ediv_le_self (a:=B0) HH (by omega)
 generalize A0/HH=a at *
 generalize B0/HH=b at *
 refine⟨_,(zB (zM (i:=2) nd rfl (Or.inl rfl) (wE (zA zE (zA zE (zA zE (zA zE zC)))))) (zB (w5 PassesOwn.never (vF zGc (pv 1) zE (vM _)) (zB (zM (i:=3) nd rfl (Or.inl rfl) (zK vO (pv 0) (pv 1))) (zB (zM (i:=4) nd rfl (Or.inl rfl) (zK jD (pv 0) (zK vG (pv 3) (pv 1)))) (zB (zM (i:=5) nd rfl (Or.inl rfl) (wE (zA (vC vD (pv 2) zE (fun _ _=>rfl)) (zA (vC vD (pv 2) zE (fun _ _=>rfl)) (zA (zK jD (vC vD (pv 2) zE (fun _ _=>rfl)) (zK vG (pv 3) (vC vD (pv 2) zE (fun _ _=>rfl)))) (zA (zK jD (vC vD (pv 2) zE (fun _ _=>rfl)) (zK vG (pv 3) (vC vD (pv 2) zE (fun _ _=>rfl)))) zC)))))) (zB (zM (i:=6) nd rfl (Or.inl rfl) (zT (zFm rfl) (by rfl) T.b_max L2.bi_max (zA (zT zAf (by rfl) T.b_abs L2.zEj (zA (vC vD (pv 5) zE (fun _ _=>rfl)) zC)) (zA (zT zAf (by rfl) T.b_abs L2.zEj (zA (vC vD (pv 5) zE (fun _ _=>rfl)) zC)) zC)))) (zB (wJ (PW.pt (pw_or (vF op_le (pv 4) (pv 6) (vM _)) (pw_or1 (vF op_le (zK jD (pv 1) (pv 4)) (zK vU (pv 6) (zT (zFm rfl) (by rfl) T.b_max L2.bi_max (zA (zT zAf (by rfl) T.b_abs L2.zEj (zA (vC vD (pv 2) zE (fun _ _=>rfl)) zC)) (zA (zT zAf (by rfl) T.b_abs L2.zEj (zA (vC vD (pv 2) zE (fun _ _=>rfl)) zC)) zC)))) (vM _))))) (zI (zU (pv 2))) vQ) (zB (zM (i:=2) nd rfl (Or.inl rfl) (pv 5)) (zB (zM (i:=0) nd rfl (Or.inl rfl) (pv 1)) (zI (zM (i:=1) nd rfl (Or.inl rfl) (pv 4))))))))))) (zI (zU (pv 2))))),?_⟩
 refine⟨(by show 4≤sizeLine;decide),fun t0 ht0=>?_⟩
 have sm0:zN H (upd H t0 (.tup [V.int 1,V.int 0,V.int 0,V.int 1])):=zG (zN.refl _) ht0
 have h0:upd H t0 (.tup [V.int 1,V.int 0,V.int 0,V.int 1]) t0=some (.tup [V.int 1,V.int 0,V.int 0,V.int 1]):=zD
 generalize upd H t0 (.tup [V.int 1,V.int 0,V.int 0,V.int 1])=HA at sm0 h0 ⊢
 refine⟨fun m σ H'=>zN H H'∧∃ (ta:Addr)(rest later x y z w:Int)(o1 o2 o3 o4:Option V),σ=[some (.int rest),some (.int later),some (.ref ta),o1,o2,o3,o4]∧H' ta=some (.tup [.int x,.int y,.int z,.int w])∧rest=x*a+y*b∧later=z*a+w*b∧0≤rest∧0≤later∧rest < W∧later < W∧Eb.Tn A0 B0 x y z w∧0 < z*A0+w*B0∧((x=1∧y=0∧z=0∧w=1)∨HH≤z*A0+w*B0)∧(x.natAbs < W∧y.natAbs < W∧z.natAbs < W∧w.natAbs < W)∧m=later.toNat,
  ⟨_,sm0,t0,a,b,1,0,0,1,none,none,none,none,rfl,h0,by omega,by omega,da0,db0,by omega,by omega,.one,by omega,.inl ⟨rfl,rfl,rfl,rfl⟩,⟨by omega,by omega,by omega,by omega⟩,rfl⟩,?_⟩
 rintro m σ H' ⟨sm,ta,rest,later,x,y,z,w,o1,o2,o3,o4,rfl,hT,e1,e2,r0,l0,r1,l1,tn,L0,big,⟨fx,fy,fz,fw⟩,rfl⟩
 have i0:atI [V.int x,V.int y,V.int z,V.int w] 0=some (.int x):=rfl
 have i1:atI [V.int x,V.int y,V.int z,V.int w] 1=some (.int y):=rfl
 have i2:atI [V.int x,V.int y,V.int z,V.int w] 2=some (.int z):=rfl
 have i3:atI [V.int x,V.int y,V.int z,V.int w] 3=some (.int w):=rfl
 have out:Q (.ref ta) H':=q ta H' x y z w sm hT tn (by rw[← hHH];exact big) (by rw[← hW];exact⟨fx,fy,fz,fw⟩)
 refine⟨_,rfl,rfl,_,rfl,zCs (fun c=>?_) (fun c=>⟨_,rfl,out⟩)⟩
 have lp:0 < later:=by have:=vne c;omega
 obtain⟨qq,hq⟩:∃ qq:Int,qq=rest/later:=⟨_,rfl⟩
 have q0:0≤qq:=by rw[hq];exact Int.ediv_nonneg r0 (by omega)
 have qle:qq≤rest:=by rw[hq];exact Int.ediv_le_self _ r0
 have md:=Int.emod_add_mul_ediv rest later
 have mn0:=Int.emod_nonneg rest (show later≠0 by omega)
 have mn1:=Int.emod_lt_of_pos rest lp
 rw[← hq,Int.mul_comm] at md
 have qW:qq.natAbs < 2^N:=by rw[← hW];omega
 have lW:later.natAbs < 2^N:=by rw[← hW];omega
 have zW:z.natAbs < 2^N:=by rw[← hW];exact fz
 have wW:w.natAbs < 2^N:=by rw[← hW];exact fw
 refine⟨_,fun _ _ h=>h,?_⟩
 refine⟨_,rfl,_,rfl,_,_,rfl,rfl,div9 lp lW N2,?_⟩
 dsimp only
 rw[← hq]
 try dsimp only [jG,List.set_cons_succ,List.set_cons_zero]
 refine⟨_,rfl,_,rfl,_,rfl,_,_,rfl,rfl,zDn qW lW (by omega),_,_,rfl,rfl,?_⟩
 dsimp only
 obtain⟨nr,hnr⟩:∃ nr:Int,nr=rest-qq*later:=⟨_,rfl⟩
 rw[← hnr]
 have nr0:0≤nr:=by omega
 have nr1:nr < later:=by omega
 try dsimp only [jG,List.set_cons_succ,List.set_cons_zero]
 refine⟨_,rfl,ta,_,_,_,rfl,rfl,SqT.of hT,i2,_,rfl,ta,_,_,_,rfl,rfl,SqT.of hT,i3,_,rfl,ta,_,_,_,rfl,rfl,SqT.of hT,i0,_,rfl,_,rfl,ta,_,_,_,rfl,rfl,SqT.of hT,i2,_,_,rfl,rfl,zDn qW zW (by omega),_,_,rfl,rfl,?_⟩
 refine⟨_,rfl,ta,_,_,_,rfl,rfl,SqT.of hT,i1,_,rfl,_,rfl,ta,_,_,_,rfl,rfl,SqT.of hT,i3,_,_,rfl,rfl,zDn qW wW (by omega),_,_,rfl,rfl,(by show 4≤sizeLine;decide),fun fu hfu=>?_⟩
 have smF:zN H' (upd H' fu (.tup [V.int z,V.int w,V.int (x-qq*z),V.int (y-qq*w)])):=zG (zN.refl _) hfu
 have hF:upd H' fu (.tup [V.int z,V.int w,V.int (x-qq*z),V.int (y-qq*w)]) fu=some (.tup [V.int z,V.int w,V.int (x-qq*z),V.int (y-qq*w)]):=zD
 generalize upd H' fu (.tup [V.int z,V.int w,V.int (x-qq*z),V.int (y-qq*w)])=HB at smF hF ⊢
 try dsimp only [jG,List.set_cons_succ,List.set_cons_zero]
 have hT2:=smF _ _ hT
 have out2:Q (.ref ta) HB:=q ta HB x y z w (sm.trans smF) hT2 tn (by rw[← hHH];exact big) (by rw[← hW];exact⟨fx,fy,fz,fw⟩)
 have en:nr=(x-qq*z)*a+(y-qq*w)*b:=by rw[hnr,e1,e2];grind
 obtain⟨x',hx'⟩:∃ x':Int,x'=x-qq*z:=⟨_,rfl⟩
 obtain⟨y',hy'⟩:∃ y':Int,y'=y-qq*w:=⟨_,rfl⟩
 rw[← hx',← hy'] at hF en
 have j2:atI [V.int z,V.int w,V.int x',V.int y'] 2=some (.int x'):=rfl
 have j3:atI [V.int z,V.int w,V.int x',V.int y'] 3=some (.int y'):=rfl
 refine⟨_,rfl,fu,_,_,_,rfl,rfl,SqT.of hF,j2,_,rfl,_,rfl,fu,_,_,_,rfl,rfl,SqT.of hF,j3,_,rfl,_,_,rfl,?_⟩
 try dsimp only [jG,List.set_cons_succ,List.set_cons_zero]
 obtain⟨d,hd⟩:∃ d:Int,d=(if (if y' < 0 then -y' else y') > (if x' < 0 then -x' else x') then (if y' < 0 then -y' else y') else (if x' < 0 then -x' else x')):=⟨_,rfl⟩
 rw[← hd]
 have dd:=ab_max hd
 refine⟨_,rfl,_,rfl,_,_,rfl,rfl,_,rfl,zCs (fun c1=>⟨_,rfl,out2⟩) (fun c1=>?_)⟩
 have n1:=ndec c1
 refine⟨_,rfl,_,rfl,_,_,rfl,rfl,_,rfl,_,rfl,ta,_,_,_,rfl,rfl,SqT.of hT2,i2,_,rfl,_,rfl,ta,_,_,_,rfl,rfl,SqT.of hT2,i3,_,rfl,_,_,rfl,_,_,rfl,rfl,_,_,rfl,rfl,_,rfl,zCs (fun c2=>⟨_,rfl,out2⟩) (fun c2=>?_)⟩
 have n2:=ndec c2
 obtain⟨d',hd'⟩:∃ d':Int,d'=(if (if w < 0 then -w else w) > (if z < 0 then -z else z) then (if w < 0 then -w else w) else (if z < 0 then -z else z)):=⟨_,rfl⟩
 rw[← hd'] at n2
 have dd':=ab_max hd'
 have su:=Eb.sure H1 eA eB mA0 mA1 mB0 mB1 tn q0 L0 (d:=d) (d':=d') (by rw[← hx'];exact dd.1) (by rw[← hy'];exact dd.2) dd'.1 dd'.2 (by rw[← hx',← hy',← en];omega) (by rw[← hx',← hy',← en,← e2];omega)
 rw[← hx',← hy'] at su
 refine⟨_,rfl,?_⟩
 refine⟨_,rfl,?_⟩
 refine⟨_,rfl,?_⟩
 exact⟨nr.toNat,by omega,sm.trans smF,fu,later,nr,z,w,x',y',_,_,_,_,rfl,hF,e2,en,l0,nr0,l1,by omega,su.1,by omega,.inr su.2,⟨fz,fw,by omega,by omega⟩,rfl⟩
theorem bts_ge {B bits:Int}(b0:0≤B)(h0:0≤bits)(h:bts B > bits):2^bits.toNat≤B:=by
 rcases Int.lt_or_le B (2^bits.toNat) with c | c
 ·exfalso
  have e:((2^bits.toNat:Nat):Int)=2^bits.toNat:=by rw[Int.natCast_pow];rfl
  have:B.natAbs < 2^bits.toNat:=by omega
  have:=PyProof.Rows.intBits_le this
  unfold bts at h
  omega
 ·exact c
theorem Tn_desc {A B x y z w:Int}(h:Eb.Tn A B x y z w)(ne:¬ (x=1∧y=0∧z=0∧w=1)):z*A+w*B < x*A+y*B:=by
 cases h with
 | one=>exact absurd ⟨rfl,rfl,rfl,rfl⟩ ne
 | step q h _ _ lt _=>exact lt
def spNextB:Sp:=fun vs H Q _=>∃ (r:Addr)(A B bits:Int)(N:Nat),vs=[.ref r,.int bits]∧H r=some (.tup [.int A,.int B])∧0≤A∧0 < B∧0≤bits∧bts B > bits∧1≤N∧N≤9000∧A < 2^N∧B < 2^N ∧
 ∀ t H' (x y z w:Int),zN H H'→H' t=some (.tup [.int x,.int y,.int z,.int w])→Eb.Tn A B x y z w→z*A+w*B < B→2^bits.toNat≤x*A+y*B→(x.natAbs < 2^N∧y.natAbs < 2^N∧z.natAbs < 2^N∧w.natAbs < 2^N)→Q (.ref t) H'
theorem ok_next_turn (T:Txt K mg C_Frame t_LEAD_BITS t_FIRST_PRIME):Df P w K mg base 2 "next_turn" ["rests","bits"] spNextB:=by
 have D_sure_turn:=ok_sure_turn (P:=P) (w:=w) (base:=base) T
 refine T.d_next_turn.ok zEa (fun vs H Q E h=>?_) (fun f cdv A outer s H vs Q E hr h=>?_)
 ·obtain⟨_,_,_,_,_,rfl,_⟩:=h;rfl
 obtain⟨r,A0,B0,bits,N,rfl,hR,a0,b0,bi0,big,N1,N2,fA,fB,q⟩:=h
 have nd:=zEa.nd
 have i0:atI [V.int A0,V.int B0] 0=some (.int A0):=rfl
 have i1:atI [V.int A0,V.int B0] 1=some (.int B0):=rfl
 have bge:=bts_ge (by omega) bi0 big
 have eN:((2^N:Nat):Int)=2^N:=by rw[Int.natCast_pow];rfl
 have N2':2≤2^N:=Nat.pow_le_pow_right (n:=2) (by decide) N1
 have single:∀ H1:Hp,zN H H1→∀ t,H1 t=none→Q (.ref t) (upd H1 t (.tup [V.int 0,V.int 1,V.int 1,V.int (-(A0/B0))])):=fun H1 sm t ht=>by
  have q0:0≤A0/B0:=Int.ediv_nonneg a0 (by omega)
  have q1:A0/B0≤A0:=Int.ediv_le_self _ a0
  have md:=Int.emod_add_mul_ediv A0 B0
  have m0:=Int.emod_nonneg A0 (show B0≠0 by omega)
  have m1:=Int.emod_lt_of_pos A0 b0
  have e3:1*A0 + -(A0/B0)*B0=A0%B0:=by rw[Int.neg_mul,Int.mul_comm (A0/B0)];omega
  have tn:Eb.Tn A0 B0 0 1 1 (-(A0/B0)):=by
   have:=Eb.Tn.step (A:=A0) (B:=B0) (A0/B0) .one (by omega) (by rw[show (1-A0/B0*0)*A0+(0-A0/B0*1)*B0=1*A0 + -(A0/B0)*B0 by grind,e3];exact m0) (by rw[show (1-A0/B0*0)*A0+(0-A0/B0*1)*B0=1*A0 + -(A0/B0)*B0 by grind,e3];omega) q0
   rwa [show 1-A0/B0*0=1 by omega,show 0-A0/B0*1=-(A0/B0) by omega] at this
  exact q t _ 0 1 1 (-(A0/B0)) (zG sm ht) zD tn (by rw[e3];exact m1) (by omega) ⟨by omega,by omega,by omega,by omega⟩
 refine⟨_,(zB (zM (i:=2) nd rfl (Or.inl rfl) (zT (call_min2 rfl) (by rfl) T.b_min L2.bi_min (zA (pe_bm0 PySem.F.plainAttrs_int PySem.F.slot_int_bit_length PySem.F.type_int_bit_length zFc (vC vD (pv 0) zE (fun _ _=>rfl))) (zA (pe_bm0 PySem.F.plainAttrs_int PySem.F.slot_int_bit_length PySem.F.type_int_bit_length zFc (vC vD (pv 0) zE (fun _ _=>rfl))) zC)))) (zB (wJ (vF op_gt (pv 2) (zK vU (pv 1) (pe_glob (v:=.int 128) (by rfl) T.g_LEAD_BITS ⟨_,rfl⟩)) (vM _)) (zB (zM (i:=3) nd rfl (Or.inl rfl) (zK jD (pv 2) (pe_glob (v:=.int 128) (by rfl) T.g_LEAD_BITS ⟨_,rfl⟩))) (zB (zM (i:=4) nd rfl (Or.inl rfl) (zQ D_sure_turn (hr.mono (by decide)) (by rfl) (zA (zK op_shr (vC vD (pv 0) zE (fun _ _=>rfl)) (pv 3)) (zA (zK op_shr (vC vD (pv 0) zE (fun _ _=>rfl)) (pv 3)) zC)))) (zI (wJ (vF (op_neD (hu64 hr)) (pv 4) (wE (zA zE (zA zE (zA zE (zA zE zC))))) (vM _)) (zI (zU (pv 4))) vQ)))) vQ) (zI (zU (wE (zA zE (zA zE (zA zE (zA (pe_un zDd (zK vO (vC vD (pv 0) zE (fun _ _=>rfl)) (vC vD (pv 0) zE (fun _ _=>rfl)))) zC))))))))),?_⟩
 refine⟨_,rfl,r,_,_,_,rfl,rfl,SqT.of hR,i0,rfl,_,rfl,rfl,_,rfl,r,_,_,_,rfl,rfl,SqT.of hR,i1,rfl,_,rfl,rfl,_,_,rfl,?_⟩
 obtain⟨len,hlen⟩:∃ len:Int,len=(if bts B0 < bts A0 then bts B0 else bts A0):=⟨_,rfl⟩
 rw[← hlen]
 refine⟨_,rfl,_,rfl,_,_,rfl,rfl,_,_,rfl,rfl,_,rfl,?_⟩
 have last:∀ (σ:St)(H1:Hp),σ[0]?=some (some (.ref r))→zN H H1→True:=fun _ _ _ _=>trivial
 refine zCs (fun c=>?_) (fun _=>?_)
 ·have c':=dec c
  refine⟨_,rfl,_,_,rfl,rfl,?_⟩
  dsimp only
  obtain⟨bh,hbh⟩:∃ bh:Int,bh=len-128:=⟨_,rfl⟩
  rw[← hbh]
  try dsimp only [jG,List.set_cons_succ,List.set_cons_zero]
  refine⟨_,rfl,r,_,_,_,rfl,rfl,SqT.of hR,i0,_,rfl,_,_,rfl,rfl,(show 0≤bh by omega),_,rfl,r,_,_,_,rfl,rfl,SqT.of hR,i1,_,rfl,_,_,rfl,rfl,(show 0≤bh by omega),A0,B0,bh.toNat,N,rfl,a0,b0,N1,N2,fA,fB,fun ta H1 x y z w sm1 h1 tn ab few=>?_⟩
  try dsimp only [jG,List.set_cons_succ,List.set_cons_zero]
  refine⟨_,rfl,(by show 4≤sizeLine;decide),fun tb htb=>neT4 ((vA (zY h1 htb)).trans h1) zD ⟨_,rfl,zCs (fun c2=>?_) (fun c2=>?_)⟩⟩
  ·have ne:¬ (x=1∧y=0∧z=0∧w=1):=fun zz=>by rw[decide_eq_true zz] at c2;cases c2
   have great:=ab.resolve_left ne
   have ds:=Tn_desc tn ne
   have pw:(2:Int)^bits.toNat≤2^bh.toNat:=by
    have:=Nat.pow_le_pow_right (n:=2) (by decide) (show bits.toNat≤bh.toNat by omega)
    have e1:((2^bits.toNat:Nat):Int)=2^bits.toNat:=by rw[Int.natCast_pow];rfl
    have e2:((2^bh.toNat:Nat):Int)=2^bh.toNat:=by rw[Int.natCast_pow];rfl
    omega
   exact⟨_,rfl,q ta _ x y z w (zG sm1 htb) ((vA (zY h1 htb)).trans h1) tn (tn.lt ne) (by omega) few⟩
  ·have smb:=zG (o:=.tup [V.int 1,V.int 0,V.int 0,V.int 1]) sm1 htb
   refine⟨_,rfl,r,_,_,_,rfl,rfl,SqT.of (smb _ _ hR),i0,_,rfl,r,_,_,_,rfl,rfl,SqT.of (smb _ _ hR),i1,_,_,rfl,rfl,div9 b0 (by omega) N2,_,rfl,(by show 4≤sizeLine;decide),fun t ht=>single _ smb t ht⟩
 ·exact⟨_,rfl,r,_,_,_,rfl,rfl,SqT.of hR,i0,_,rfl,r,_,_,_,rfl,rfl,SqT.of hR,i1,_,_,rfl,rfl,div9 b0 (by omega) N2,_,rfl,(by show 4≤sizeLine;decide),fun t ht=>single _ (zN.refl _) t ht⟩
theorem zCt (N:Nat):((2^N:Nat):Int)=2^N:=by rw[Int.natCast_pow];rfl
def spEuB:Sp:=fun vs H Q _=>∃ (one other bits:Int)(N:Nat),vs=[.int one,.int other,.int bits]∧1≤one∧0≤other∧0≤bits∧1≤N∧N≤9000∧one < 2^N∧other < 2^N ∧
 ∀ t H' (r0 c0 r1 c1:Int),zN H H'→H' t=some (.tup [.int r0,.int c0,.int r1,.int c1])→Eb.St one other r0 r1 c0 c1→1≤r0→bts r1≤bits→(r0=one∨2^bits.toNat≤r0)→(c0.natAbs:Int)≤one→Q (.ref t) H'
theorem zFr (T:Txt K mg C_Frame t_LEAD_BITS t_FIRST_PRIME):Df P w K mg base 3 "euclid" ["one","other","bits"] spEuB:=by
 have D_next_turn:=ok_next_turn (P:=P) (w:=w) (base:=base) T
 have D_turned_on:=ok_turned_on (P:=P) (w:=w) (base:=base) T
 refine T.d_euclid.ok sc_euclid (fun vs H Q E h=>?_) (fun f cdv A outer s H vs Q E hr h=>?_)
 ·obtain⟨_,_,_,_,rfl,_⟩:=h;rfl
 obtain⟨one,other,bits,N,rfl,o1,t0,b0,N1,N2,fo,ft,q⟩:=h
 have nd:=sc_euclid.nd
 have eN:=zCt N
 refine⟨_,(zB (zM (i:=3) nd rfl (Or.inl rfl) (wE (zA (pv 0) (zA (pv 1) zC)))) (zB (zM (i:=4) nd rfl (Or.inl rfl) (wE (zA zE (zA zE zC)))) (zB (w5 PassesOwn.never (vF op_gt (pe_bm0 PySem.F.plainAttrs_int PySem.F.slot_int_bit_length PySem.F.type_int_bit_length zFc (vC vD (pv 3) zE (fun _ _=>rfl))) (pv 2) (vM _)) (zB (zM (i:=5) nd rfl (Or.inl rfl) (zQ D_next_turn (hr.mono (by decide)) (by rfl) (zA (pv 3) (zA (pv 2) zC)))) (zB (zM (i:=3) nd rfl (Or.inl rfl) (zQ D_turned_on (hr.mono (by decide)) (by rfl) (zA (pv 3) (zA (pv 5) zC)))) (zI (zM (i:=4) nd rfl (Or.inl rfl) (zQ D_turned_on (hr.mono (by decide)) (by rfl) (zA (pv 4) (zA (pv 5) zC)))))))) (zI (zU (wE (zA (vC vD (pv 3) zE (fun _ _=>rfl)) (zA (vC vD (pv 4) zE (fun _ _=>rfl)) (zA (vC vD (pv 3) zE (fun _ _=>rfl)) (zA (vC vD (pv 4) zE (fun _ _=>rfl)) zC)))))))))),?_⟩
 refine⟨_,rfl,_,rfl,(by show 2≤sizeLine;decide),fun ra hra=>?_⟩
 refine⟨(by show 2≤sizeLine;decide),fun ca hca=>?_⟩
 have sm0:zN H (upd (upd H ra (.tup [.int one,.int other])) ca (.tup [.int 0,.int 1])):=zG (zG (zN.refl _) hra) hca
 have hr0:upd (upd H ra (.tup [.int one,.int other])) ca (.tup [.int 0,.int 1]) ra=some (.tup [.int one,.int other]):=(vA (zY zD hca)).trans zD
 have hc0:upd (upd H ra (.tup [.int one,.int other])) ca (.tup [.int 0,.int 1]) ca=some (.tup [.int 0,.int 1]):=zD
 generalize upd (upd H ra (.tup [.int one,.int other])) ca (.tup [.int 0,.int 1])=H0 at sm0 hr0 hc0 ⊢
 refine⟨fun m σ H'=>zN H H'∧∃ (ra ca:Addr)(r c lr lc:Int)(tv:Option V),σ=[some (.int one),some (.int other),some (.int bits),some (.ref ra),some (.ref ca),tv]∧H' ra=some (.tup [.int r,.int lr])∧H' ca=some (.tup [.int c,.int lc])∧1≤r∧r < 2^N∧lr < 2^N∧Eb.St one other r lr c lc∧(r=one∨2^bits.toNat≤r)∧(c.natAbs:Int)≤one∧m=lr.toNat,
  ⟨_,sm0,ra,ca,one,0,other,1,none,rfl,hr0,hc0,o1,fo,ft,.start (by omega) t0,.inl rfl,by omega,rfl⟩,?_⟩
 rintro m σ H' ⟨sm,ra,ca,r,c,lr,lc,tv,rfl,hR,hC,r1,rN,lN,st,big,cb,rfl⟩
 have i0:atI [V.int r,V.int lr] 0=some (.int r):=rfl
 have i1:atI [V.int r,V.int lr] 1=some (.int lr):=rfl
 have c0:atI [V.int c,V.int lc] 0=some (.int c):=rfl
 have c1:atI [V.int c,V.int lc] 1=some (.int lc):=rfl
 have l0:=st.p1
 have lcb:=st.c1 (by omega) r1
 refine⟨_,rfl,ra,_,_,_,rfl,rfl,SqT.of hR,i1,rfl,_,rfl,rfl,_,rfl,_,_,rfl,rfl,_,rfl,?_⟩
 refine zCs (fun c'=>?_) (fun c'=>?_)
 ·have gt:=dec c'
  have ne:=bts_pos (show bts lr > 0 by omega)
  refine⟨_,fun _ _ h=>h,?_⟩
  refine⟨_,rfl,_,rfl,ra,r,lr,bits,N,rfl,hR,by omega,by omega,b0,gt,N1,N2,rN,lN,fun ta H1 x y z w sm1 h1 tn lt big' few=>?_⟩
  have ni:¬ (x=1∧y=0∧z=0∧w=1):=fun ⟨a,b,d,e⟩=>by rw[d,e] at lt;omega
  have cc:=tn.c0 st (by omega) r1 ni
  have st2:=tn.st st
  refine⟨_,rfl,_,rfl,ra,ta,r,lr,x,y,z,w,N,rfl,sm1 _ _ hR,h1,N2,⟨by omega,by omega,few.1,few.2.1,few.2.2.1,few.2.2.2⟩,fun rb hrb=>?_⟩
  have sm2:zN H1 (upd H1 rb (.tup [.int (x*r+y*lr),.int (z*r+w*lr)])):=zG (zN.refl _) hrb
  have h2:upd H1 rb (.tup [.int (x*r+y*lr),.int (z*r+w*lr)]) rb=some (.tup [.int (x*r+y*lr),.int (z*r+w*lr)]):=zD
  generalize upd H1 rb (.tup [.int (x*r+y*lr),.int (z*r+w*lr)])=H2 at sm2 h2 ⊢
  refine⟨_,rfl,_,rfl,ca,ta,c,lc,x,y,z,w,N,rfl,sm2 _ _ (sm1 _ _ hC),sm2 _ _ h1,N2,⟨by omega,by omega,few.1,few.2.1,few.2.2.1,few.2.2.2⟩,fun cb' hcb=>?_⟩
  exact⟨(z*r+w*lr).toNat,by have:=st2.p1;omega,zG ((sm.trans sm1).trans sm2) hcb,rb,cb',_,_,_,_,_,rfl,zG (zN.refl _) hcb _ _ h2,zD,cc.2.1,by omega,by omega,st2,.inr big',cc.1,rfl⟩
 ·have le:=ndec c'
  refine⟨_,rfl,ra,_,_,_,rfl,rfl,SqT.of hR,i0,_,rfl,ca,_,_,_,rfl,rfl,SqT.of hC,c0,_,rfl,ra,_,_,_,rfl,rfl,SqT.of hR,i1,_,rfl,ca,_,_,_,rfl,rfl,SqT.of hC,c1,(by show 4≤sizeLine;decide),fun t ht=>?_⟩
  exact q t _ r c lr lc (zG sm ht) zD st r1 (by omega) big cb
def spBackB:Sp:=fun vs H Q _=>∃ (st n:Int)(N:Nat),vs=[.int st,.int n]∧1≤n∧1≤N∧N≤9000∧n < 2^N∧(∀ d:Int,1≤d→d∣n→d∣st→d=1)∧∀ (u:Int) H',1≤u→u≤n→n∣st*u-1→zN H H'→Q (.int u) H'
theorem ok_back (T:Txt K mg C_Frame t_LEAD_BITS t_FIRST_PRIME):Df P w K mg base 4 "back" ["step","n"] spBackB:=by
 have D_euclid:=zFr (P:=P) (w:=w) (base:=base) T
 refine T.d_back.ok sc_back (fun vs H Q E h=>?_) (fun f cdv A outer s H vs Q E hr h=>?_)
 ·obtain⟨_,_,_,rfl,_⟩:=h;rfl
 obtain⟨st,n,N,rfl,n1,N1,N2,fn,cop,q⟩:=h
 have nd:=sc_back.nd
 have s0:=Int.emod_nonneg st (show n≠0 by omega)
 have s1:=Int.emod_lt_of_pos st (show 0 < n by omega)
 refine⟨_,(zB (zM (i:=2) nd rfl (Or.inl rfl) (zQ D_euclid (hr.mono (by decide)) (by rfl) (zA (pv 1) (zA (zK vR (pv 0) (pv 1)) (zA zE zC))))) (zB (wJ (vF zGc (vC vD (pv 2) zE (fun _ _=>rfl)) zE (vM _)) (zI ps_never) vQ) (zI (zU (zK vU (zK vR (zK jD (vC vD (pv 2) zE (fun _ _=>rfl)) zE) (pv 1)) zE))))),?_⟩
 refine⟨_,rfl,_,rfl,_,rfl,_,_,rfl,rfl,(show 0 < n by omega),n,st%n,0,N,rfl,n1,s0,Int.le_refl 0,N1,N2,fn,by omega,fun t H1 r0 c0 r1 c1 sm1 h1 S p0 bz _ _=>?_⟩
 have i0:atI [V.int r0,V.int c0,V.int r1,V.int c1] 0=some (.int r0):=rfl
 have i1:atI [V.int r0,V.int c0,V.int r1,V.int c1] 1=some (.int c0):=rfl
 have z:r1=0:=bts_zero (by omega)
 have dv:=S.dvd z
 have eg:r0=1:=cop r0 p0 dv.1 (by
  have a:n∣st%n-st:=Lt.vX st n
  have b:=Int.dvd_sub dv.2 (Int.dvd_trans dv.1 a)
  rwa [show st%n-(st%n-st)=st by omega] at b)
 refine⟨_,rfl,t,_,_,_,rfl,rfl,SqT.of h1,i0,rfl,_,rfl,iteNS (congrArg V.int eg) ?_⟩
 rw[eg,z] at S
 have o:=S.back n1
 refine⟨_,rfl,t,_,_,_,rfl,rfl,SqT.of h1,i1,_,_,rfl,rfl,_,rfl,_,_,rfl,rfl,(show 0 < n by omega),_,_,rfl,rfl,?_⟩
 exact q _ _ o.1 o.2.1 o.2.2 sm1
def Bd (N:Nat)(l:List Int):Prop:=∀ x∈l,x.natAbs < 2^N
theorem mulN {a b:Int}{N M:Nat}(ha:a.natAbs < 2^N)(hb:b.natAbs < 2^M)(h:N≤1000000)(h':M≤1000000):IntMulOk a b:=zDn ha hb (by omega)
def spLess:Sp:=fun vs H Q _=>∃ (r s:Addr)(row other:List Int)(many m:Int)(N M:Nat),vs=[.ref r,.int many,.ref s,.int m]∧H r=some (.lst (row.map V.int))∧H s=some (.lst (other.map V.int))∧row.length=other.length∧row.length≤20000∧0 < m∧many.natAbs < 2^N∧Bd M other∧N≤1000000∧M≤1000000 ∧
 ∀ t H',zN H H'→H' t=some (.lst ((Rx.les row many other m).map V.int))→Q (.ref t) H'
theorem zCe (T:Txt K mg C_Frame t_LEAD_BITS t_FIRST_PRIME):Df P w K mg base 1 "lessened" ["row","many","other","modulus"] spLess:=by
 refine T.d_lessened.ok zFt (fun vs H Q E h=>?_) (fun f cdv A outer s H vs Q E hr h=>?_)
 ·obtain⟨_,_,_,_,_,_,_,_,rfl,_⟩:=h;rfl
 obtain⟨r,s',row,other,many,m,N,M,rfl,h1,h2,l,lz,m0,bm,bo,N1,M1,q⟩:=h
 have nd:=zFt.nd
 refine⟨_,(zB (wJ (vF zCw (pv 1) zE (vM _)) (zI (zU (pv 0))) vQ) (zI (zU (zZ (cap:=[("modulus",3),("many",1)]) (tgs:=["number","less"])  rfl rfl rfl (by decide +kernel) (by decide +kernel) (vI (by rfl)) (zV rfl (zV rfl vK)) (zX ⟨rfl,Or.inl rfl,Or.inl rfl,_,rfl⟩ (zX ⟨rfl,Or.inl rfl,Or.inl rfl,_,rfl⟩ vH)) (v5 (by decide) (by decide)) (zBl (by rfl) T.b_zip (zA (pv 0) (zA (pv 2) zC))) (fun C s H fp=>⟨(wB rfl (zO (zL (i:=2) (show (["modulus","many","number","less"]:List Str).Nodup by decide +kernel) rfl (Or.inl rfl) (Or.inr rfl)) (zO (zL (i:=3) (show (["modulus","many","number","less"]:List Str).Nodup by decide +kernel) rfl (Or.inl rfl) (Or.inr rfl)) vV))),vJ,(zK vR (zK jD (pv 2) (zK vG (pv 1) (pv 3))) (pv 0))⟩))))),?_⟩
 refine⟨_,rfl,rfl,_,rfl,?_⟩
 refine zCs (fun c=>?_) (fun c=>?_)
 ·have z:=vint c
  exact⟨_,rfl,q r H (zN.refl _) (by unfold Rx.les;rw[if_pos z];exact h1)⟩
 ·have z:=nvint c
  refine⟨_,rfl,_,rfl,r,s',rfl,⟨_,SqL.of h1⟩,⟨_,SqL.of h2⟩,?_⟩
  refine zBd (K:=K) (xs:=row.map V.int) (ys:=other.map V.int) (List.zipWith (fun x y=>(x-many*y)%m) row other) (by rw[List.length_map,List.length_map,l]) (by rw[List.length_zipWith,List.length_map,← l,Nat.min_self]) (by rw[List.length_map];exact lz) (SqL.of h1) (SqL.of h2) ?_ ?_
  ·intro i x y H2 p hx hy sm hp R k
   obtain⟨u,rfl,hu⟩:=int_at hx
   obtain⟨v,rfl,hv⟩:=int_at hy
   refine⟨p,_,rfl,SqT.of zD,rfl,_,_,rfl,_,_,rfl,rfl,?_⟩
   refine⟨_,rfl,_,rfl,_,rfl,_,_,rfl,rfl,mulN bm (bo v (List.mem_of_getElem? hv)) N1 M1,_,_,rfl,rfl,_,rfl,_,_,rfl,rfl,m0,?_⟩
   exact k _ _ (zG (zN.refl _) hp) (by rw[List.getElem?_zipWith,hu,hv])
  ·intro D H2 sm _ hD
   refine q D H2 sm ?_
   unfold Rx.les
   rw[if_neg z];exact hD
def spTake:Sp:=fun vs H Q _=>∃ (r:Addr)(row:List Int)(many m:Int)(N M:Nat),vs=[.ref r,.int many,.int m]∧H r=some (.lst (row.map V.int))∧row.length≤20000∧0 < m∧many.natAbs < 2^N∧Bd M row∧N≤1000000∧M≤1000000 ∧
 ∀ t H',zN H H'→H' t=some (.lst ((row.map fun x=>x*many%m).map V.int))→Q (.ref t) H'
theorem zBr (T:Txt K mg C_Frame t_LEAD_BITS t_FIRST_PRIME):Df P w K mg base 1 "taken_times" ["row","many","modulus"] spTake:=by
 refine T.d_taken_times.ok zBn (fun vs H Q E h=>?_) (fun f cdv A outer s H vs Q E hr h=>?_)
 ·obtain⟨_,_,_,_,_,_,rfl,_⟩:=h;rfl
 obtain⟨r,row,many,m,N,M,rfl,h1,lz,m0,bm,bo,N1,M1,q⟩:=h
 have nd:=zBn.nd
 refine⟨_,(zI (zU (zZ (cap:=[("modulus",2),("many",1)]) (tgs:=["number"])  rfl rfl rfl (by decide +kernel) (by decide +kernel) (vI (by rfl)) (zV rfl (zV rfl vK)) (zX ⟨rfl,Or.inl rfl,Or.inl rfl,_,rfl⟩ (zX ⟨rfl,Or.inl rfl,Or.inl rfl,_,rfl⟩ vH)) (vB (by decide)) (vS (pv 0)) (fun C s H fp=>⟨(zL (i:=2) (show (["modulus","many","number"]:List Str).Nodup by decide +kernel) rfl (Or.inl rfl) (Or.inr rfl)),vJ,(zK vR (zK vG (pv 2) (pv 1)) (pv 0))⟩)))),?_⟩
 refine⟨_,rfl,r,rfl,⟨_,SqL.of h1⟩,?_⟩
 refine v3 (K:=K) (xs:=row.map V.int) (row.map fun x=>x*many%m) (by rw[List.length_map,List.length_map]) (by rw[List.length_map];exact lz) (SqL.of h1) ?_ fun D H2 sm _ hD=>q D H2 sm hD
 intro i x H2 hx sm R k
 obtain⟨u,rfl,hu⟩:=int_at hx
 refine⟨_,rfl,_,rfl,_,_,rfl,rfl,mulN (bo u (List.mem_of_getElem? hu)) bm M1 N1,_,rfl,_,_,rfl,rfl,m0,?_⟩
 exact k _ _ (zN.refl _) (by rw[List.getElem?_map,hu];rfl)
def cen (n m:Int):Int:=if 2*(n%m)≤m then n%m else n%m-m
def spCen:Sp:=fun vs H Q _=>∃ (n m:Int),vs=[.int n,.int m]∧0 < m∧Q (.int (cen n m)) H
theorem zGf (T:Txt K mg C_Frame t_LEAD_BITS t_FIRST_PRIME):Df P w K mg base 1 "centred" ["number","scale"] spCen:=by
 refine T.d_centred.ok zGi (fun vs H Q E h=>?_) (fun f cdv A outer s H vs Q E hr h=>?_)
 ·obtain⟨_,_,rfl,_⟩:=h;rfl
 obtain⟨n,m,rfl,m0,q⟩:=h
 have nd:=zGi.nd
 refine⟨_,(zB (zM (i:=2) nd rfl (Or.inl rfl) (zK vR (pv 0) (pv 1))) (zI (zU (pe_ifExp (vF op_le (zK vG zE (pv 2)) (pv 1) (vM _)) (pv 2) (zK jD (pv 2) (pv 1)))))),?_⟩
 refine⟨_,rfl,_,rfl,_,_,rfl,rfl,m0,?_⟩
 refine⟨_,rfl,_,_,rfl,rfl,wO (by decide) (by decide),_,rfl,_,_,rfl,rfl,_,rfl,?_⟩
 unfold cen at q
 refine zCs (fun c=>?_) (fun c=>?_)
 ·rw[if_pos (dec c)] at q
  exact⟨_,rfl,q⟩
 ·rw[if_neg (ndec c)] at q
  exact⟨_,rfl,_,rfl,_,_,rfl,rfl,q⟩
def spFill:Sp:=fun vs H Q _=>∃ (r:Addr)(row:List Int),vs=[.ref r]∧H r=some (.lst (row.map V.int))∧row.length≤20000∧(∀ (c:Nat) H',zN H H'→c < row.length→Lt.g row c≠0→Q (.int c) H')∧∀ H',zN H H'→(∀ c,c < row.length→Lt.g row c=0)→Q .non H'
theorem zAp (T:Txt K mg C_Frame t_LEAD_BITS t_FIRST_PRIME):Df P w K mg base 1 "first_filled" ["row"] spFill:=by
 refine T.d_first_filled.ok zAq (fun vs H Q E h=>?_) (fun f cdv A outer s H vs Q E hr h=>?_)
 ·obtain⟨_,_,rfl,_⟩:=h;rfl
 obtain⟨r,row,rfl,h1,lz,q1,q2⟩:=h
 have nd:=zAq.nd
 refine⟨_,(zB (wM PassesOwn.never rfl (zCb (by rfl) T.b_enumerate (zA (pv 0) zC)) (wB rfl (zO (zL (i:=1) nd rfl (Or.inl rfl)) (zO (zL (i:=2) nd rfl (Or.inl rfl)) vV))) (zI (wJ (vF zGc (pv 2) zE (vM _)) (zI (zU (pv 1))) vQ))) (zI (zU zDh))),?_⟩
 refine⟨_,rfl,r,rfl,⟨_,SqL.of h1⟩,zBa (K:=K) (xs:=row.map V.int) (fun i σ H2=>zN H H2∧(∃ o1 o2:Option V,σ=[some (.ref r),o1,o2])∧∀ c,c < i→Lt.g row c=0) ⟨zN.refl _,⟨none,none,rfl⟩,fun c hc=>absurd hc (Nat.not_lt_zero _)⟩ (fun i σ H2 _ z=>z.1.seq (SqL.of h1)) ?_ ?_⟩
 ·rintro i x σ H2 p hx ⟨sm,⟨o1,o2,rfl⟩,z⟩ hp
  obtain⟨v,rfl,hv⟩:=int_at hx
  have gv:=Rx.wH hv
  have il:i < row.length:=(List.getElem?_eq_some_iff.mp hv).1
  refine⟨p,_,rfl,SqT.of zD,rfl,_,_,rfl,_,_,rfl,rfl,?_⟩
  refine⟨_,rfl,rfl,_,rfl,zCs (fun c=>?_) (fun c=>?_)⟩
  ·exact⟨_,rfl,q1 i _ (zG sm hp) il (by rw[gv];exact vne c)⟩
  ·exact⟨zG sm hp,⟨_,_,rfl⟩,fun c' hc'=>by
    rcases Nat.lt_succ_iff_lt_or_eq.mp hc' with e | e
    ·exact z c' e
    ·rw[e,gv];exact nvne c⟩
 ·rintro σ H2 ⟨sm,_,z⟩
  rw[List.length_map] at z
  exact q2 H2 sm z
def spWei (K:PySem.W.Frag):Sp:=fun vs H Q _=>∃ (r s:Addr)(a b:List Int)(N M:Nat),vs=[.ref r,.ref s]∧SqL K H r (a.map V.int)∧SqL K H s (b.map V.int)∧a.length=b.length∧a.length≤20000∧Bd N a∧Bd M b∧N≤1000000∧M≤1000000∧∀ H',zN H H'→Q (.int (Rx.dot a b)) H'
theorem zBe (T:Txt K mg C_Frame t_LEAD_BITS t_FIRST_PRIME):Df P w K mg base 2 "weighed" ["load","weights"] (spWei K):=by
 have D_check_fit:=ok_check_fit (P:=P) (w:=w) (base:=base) T
 refine T.d_weighed.ok zGj (fun vs H Q E h=>?_) (fun f cdv A outer s H vs Q E hr h=>?_)
 ·obtain⟨_,_,_,_,_,_,rfl,_⟩:=h;rfl
 obtain⟨r,s',a,b,N,M,rfl,ha,hb,l,lz,ba,bb,N1,M1,q⟩:=h
 have nd:=zGj.nd
 refine⟨_,(zB (zCc (zQ D_check_fit (hr.mono (by decide)) (by rfl) (zA (pv 0) (zA (pv 1) zC)))) (zI (zU (zT (call_sumL rfl) (by rfl) T.b_sum L2.bi_sum (zA (zZ (cap:=[]) (tgs:=["weight","number"])  rfl rfl rfl (by decide +kernel) (by decide +kernel) (vI (by rfl)) vK vH (v5 (by decide) (by decide)) (zBl (by rfl) T.b_zip (zA (pv 0) (zA (pv 1) zC))) (fun C s H fp=>⟨(wB rfl (zO (zL (i:=0) (show (["weight","number"]:List Str).Nodup by decide +kernel) rfl (Or.inl rfl) (Or.inr rfl)) (zO (zL (i:=1) (show (["weight","number"]:List Str).Nodup by decide +kernel) rfl (Or.inl rfl) (Or.inr rfl)) vV))),vJ,(zK vG (pv 0) (pv 1))⟩)) zC))))),?_⟩
 refine⟨_,rfl,_,rfl,r,s',_,_,rfl,ha,hb,by rw[List.length_map,List.length_map,l],?_⟩
 refine⟨_,rfl,_,rfl,r,s',rfl,⟨_,ha⟩,⟨_,hb⟩,?_⟩
 refine zBd (K:=K) (xs:=a.map V.int) (ys:=b.map V.int) (List.zipWith (· * ·) a b) (by rw[List.length_map,List.length_map,l]) (by rw[List.length_zipWith,List.length_map,← l,Nat.min_self]) (by rw[List.length_map];exact lz) ha hb ?_ ?_
 ·intro i x y H2 p hx hy sm hp R k
  obtain⟨u,rfl,hu⟩:=int_at hx
  obtain⟨v,rfl,hv⟩:=int_at hy
  refine⟨p,_,rfl,SqT.of zD,rfl,_,_,rfl,_,_,rfl,rfl,?_⟩
  refine⟨_,rfl,_,rfl,_,_,rfl,rfl,mulN (ba u (List.mem_of_getElem? hu)) (bb v (List.mem_of_getElem? hv)) N1 M1,?_⟩
  exact k _ _ (zG (zN.refl _) hp) (by rw[List.getElem?_zipWith,hu,hv])
 ·intro D H2 sm _ hD
  exact⟨D,_,rfl,SqL.of hD,q H2 sm⟩
abbrev ni (ps:List Nat):List Int:=ps.map fun (p:Nat)=>(p:Int)
theorem ni_at {ps:List Nat}{i:Nat}{x:V}(h:((ni ps).map V.int)[i]?=some x):∃ p:Nat,x=.int p∧ps[i]?=some p:=by
 obtain⟨v,rfl,hv⟩:=int_at h
 rw[List.getElem?_map] at hv
 cases e:ps[i]? with
 | none=>rw[e] at hv;cases hv
 | some p=>rw[e] at hv;cases hv;exact⟨p,rfl,rfl⟩
def pk (xs:List V)(ps:List Nat):List V:=ps.map fun p=>xs.getD p .non
def spPick (K:PySem.W.Frag):Sp:=fun vs H Q _=>∃ (r s:Addr)(xs:List V)(ps:List Nat),vs=[.ref r,.ref s]∧SqL K H r xs∧H s=some (.lst ((ni ps).map V.int))∧(∀ p∈ps,p < xs.length)∧ps.length≤20000∧∀ t H',zN H H'→H t=none→H' t=some (.lst (pk xs ps))→Q (.ref t) H'
theorem zFh (T:Txt K mg C_Frame t_LEAD_BITS t_FIRST_PRIME):Df P w K mg base 1 "picked" ["things","places"] (spPick K):=by
 refine T.d_picked.ok sc_picked (fun vs H Q E h=>?_) (fun f cdv A outer s H vs Q E hr h=>?_)
 ·obtain⟨_,_,_,_,rfl,_⟩:=h;rfl
 obtain⟨r,s',xs,ps,rfl,h1,h2,lt,lz,q⟩:=h
 have nd:=sc_picked.nd
 refine⟨_,(zI (zU (zZ (cap:=[("things",0)]) (tgs:=["place"])  rfl rfl rfl (by decide +kernel) (by decide +kernel) (vI (by rfl)) (zV rfl vK) (zX ⟨rfl,Or.inl rfl,Or.inl rfl,_,rfl⟩ vH) (vB (by decide)) (vS (pv 1)) (fun C s H fp=>⟨(zL (i:=1) (show (["things","place"]:List Str).Nodup by decide +kernel) rfl (Or.inl rfl) (Or.inr rfl)),vJ,(vC (zBb (K:=K) rfl) (pv 0) (pv 1) (fun _ _=>rfl))⟩)))),?_⟩
 refine⟨_,rfl,s',rfl,⟨_,SqL.of h2⟩,?_⟩
 refine comp_toV (K:=K) (xs:=(ni ps).map V.int) (pk xs ps) (by unfold pk;rw[List.length_map,List.length_map,List.length_map]) (by rw[List.length_map,List.length_map];exact lz) (SqL.of h2) ?_ fun D H2 sm n hD=>q D H2 sm n hD
 intro i x H2 hx sm R k
 obtain⟨p,rfl,hp⟩:=ni_at hx
 have pl:=lt p (List.mem_of_getElem? hp)
 have e:xs[p]?=some (xs.getD p .non):=by rw[List.getD_eq_getElem?_getD,List.getElem?_eq_getElem pl];rfl
 exact⟨_,rfl,_,rfl,r,_,_,_,rfl,rfl,sm.seq h1,v4 e,k _ _ (zN.refl _) (by unfold pk;rw[List.getElem?_map,hp];rfl)⟩
theorem pk_int (a:List Int)(ps:List Nat)(h:∀ p∈ps,p < a.length):pk (a.map V.int) ps=(ps.map fun p=>Lt.g a p).map V.int:=by
 unfold pk
 rw[List.map_map]
 refine List.map_congr_left fun p hp=>?_
 rw[List.getD_eq_getElem?_getD,List.getElem?_map,Rx.wI (h p hp)];rfl
def spCol (K:PySem.W.Frag):Sp:=fun vs H Q _=>∃ (r:Addr)(rows:List (List Int))(c:Nat),vs=[.ref r,.int c]∧wZ H r rows∧(∀ row∈rows,c < row.length)∧rows.length≤20000∧∀ t H',zN H H'→H t=none→H' t=some (.lst ((rows.map fun row=>Lt.g row c).map V.int))→Q (.ref t) H'
theorem zDm (T:Txt K mg C_Frame t_LEAD_BITS t_FIRST_PRIME):Df P w K mg base 1 "column_of" ["rows","column"] (spCol K):=by
 refine T.d_column_of.ok zDf (fun vs H Q E h=>?_) (fun f cdv A outer s H vs Q E hr h=>?_)
 ·obtain⟨_,_,_,rfl,_⟩:=h;rfl
 obtain⟨r,rows,c,rfl,⟨as,h1,pa⟩,lt,lz,q⟩:=h
 have nd:=zDf.nd
 have la:=zP pa
 refine⟨_,(zI (zU (zZ (cap:=[("column",1)]) (tgs:=["row"])  rfl rfl rfl (by decide +kernel) (by decide +kernel) (vI (by rfl)) (zV rfl vK) (zX ⟨rfl,Or.inl rfl,Or.inl rfl,_,rfl⟩ vH) (vB (by decide)) (vS (pv 0)) (fun C s H fp=>⟨(zL (i:=1) (show (["column","row"]:List Str).Nodup by decide +kernel) rfl (Or.inl rfl) (Or.inr rfl)),vJ,(vC (zBb (K:=K) rfl) (pv 1) (pv 0) (fun _ _=>rfl))⟩)))),?_⟩
 refine⟨_,rfl,r,rfl,⟨_,SqL.of h1⟩,?_⟩
 refine v3 (K:=K) (xs:=as.map V.ref) (rows.map fun row=>Lt.g row c) (by rw[List.length_map,List.length_map,la]) (by rw[List.length_map,la];exact lz) (SqL.of h1) ?_ fun D H2 sm n hD=>q D H2 sm n hD
 intro i x H2 hx sm R k
 obtain⟨a,row,rfl,ha,hrow,hh⟩:=wX pa hx
 have cl:=lt row (List.mem_of_getElem? hrow)
 exact⟨_,rfl,_,rfl,a,_,_,_,rfl,rfl,SqL.of (sm _ _ hh),v4 (by rw[List.getElem?_map,Rx.wI cl];rfl),k _ _ (zN.refl _) (by rw[List.getElem?_map,hrow];rfl)⟩
def spFlip (K:PySem.W.Frag):Sp:=fun vs H Q _=>∃ (r:Addr)(rows:List (List Int))(n:Nat),vs=[.ref r]∧wZ H r rows∧rows.length=n∧(∀ row∈rows,row.length=n)∧n≤20000∧∀ t H',zN H H'→H t=none→wZ H' t (Rx.flp n rows)→Q (.ref t) H'
theorem ok_flipped (T:Txt K mg C_Frame t_LEAD_BITS t_FIRST_PRIME):Df P w K mg base 2 "flipped" ["rows"] (spFlip K):=by
 have D_column_of:=zDm (P:=P) (w:=w) (base:=base) T
 refine T.d_flipped.ok zGh (fun vs H Q E h=>?_) (fun f cdv A outer s H vs Q E hr h=>?_)
 ·obtain⟨_,_,_,rfl,_⟩:=h;rfl
 obtain⟨r,rows,n,rfl,hR,lr,lt,lz,q⟩:=h
 obtain⟨as,h1,pa⟩:=id hR
 have la:=zP pa
 have nd:=zGh.nd
 refine⟨_,(zI (zU (zZ (cap:=[("rows",0)]) (tgs:=["column"])  rfl rfl rfl (by decide +kernel) (by decide +kernel) (vI (by rfl)) (zV rfl vK) (zX ⟨rfl,Or.inl rfl,Or.inl rfl,_,rfl⟩ vH) (vB (by decide)) (wN (by rfl) T.b_range (zA (zT zS (by rfl) T.b_len L2.v6 (zA (pv 0) zC)) zC)) (fun C s H fp=>⟨(zL (i:=1) (show (["rows","column"]:List Str).Nodup by decide +kernel) rfl (Or.inl rfl) (Or.inr rfl)),vJ,(zQ D_column_of (hr.mono (by decide)) (by rfl) (zA (pv 0) (zA (pv 1) zC)))⟩)))),?_⟩
 refine⟨_,rfl,r,_,rfl,.inl (SqL.of h1),n,by rw[List.length_map,la,lr],by omega,by omega,?_⟩
 refine comp_toN (n:=n) (Rx.flp n rows) (by unfold Rx.flp;rw[List.length_map,List.length_range]) lz ?_ fun D H2 sm n hD=>q D H2 sm n hD
 intro i H2 hi sm R k
 exact⟨_,rfl,_,rfl,r,rows,i,rfl,hR.same sm,fun row hrow=>by rw[lt row hrow];exact hi,by omega,fun t H3 sm3 _ h3=>k H3 t _ sm3 (by unfold Rx.flp;rw[List.getElem?_map,List.getElem?_range hi];rfl) h3⟩
def spSpr (K:PySem.W.Frag):Sp:=fun vs H Q _=>∃ (n:Nat)(r s:Addr)(ps:List Nat)(xs:List Int),vs=[.int n,.ref r,.ref s]∧H r=some (.lst ((ni ps).map V.int))∧H s=some (.lst (xs.map V.int))∧ps.length=xs.length∧(∀ p∈ps,p < n)∧n≤20000∧∀ t H',zN H H'→H t=none→H' t=some (.lst ((Rx.spr n ps xs).map V.int))→Q (.ref t) H'
theorem ok_spread (T:Txt K mg C_Frame t_LEAD_BITS t_FIRST_PRIME):Df P w K mg base 1 "spread" ["size","places","numbers"] (spSpr K):=by
 refine T.d_spread.ok sc_spread (fun vs H Q E h=>?_) (fun f cdv A outer s H vs Q E hr h=>?_)
 ·obtain⟨_,_,_,_,_,rfl,_⟩:=h;rfl
 obtain⟨n,r,s',ps,xs,rfl,h1,h2,l,lt,lz,q⟩:=h
 have nd:=sc_spread.nd
 refine⟨_,(zB (zM (i:=3) nd rfl (Or.inl rfl) (zK zEx (wV (zA zE zC)) (pv 0))) (zB (wM PassesOwn.never rfl (zBl (by rfl) T.b_zip (zA (pv 1) (zA (pv 2) zC))) (wB rfl (zO (zL (i:=4) nd rfl (Or.inl rfl)) (zO (zL (i:=5) nd rfl (Or.inl rfl)) vV))) (zI (zCr (pv 5) (zDl (pv 3) (pv 4) set_list)))) (zI (zU (pv 3))))),?_⟩
 refine⟨(by show 1≤sizeLine;decide),fun lo hlo=>⟨_,rfl,lo,_,_,rfl,rfl,zD,by omega,by omega,(by show 1*_≤_;exact zAu (by omega)),fun p hp=>?_⟩⟩
 rw[rep0]
 have smP:zN H (upd (upd H lo (.lst [V.int 0])) p (.lst ((List.replicate n (0:Int)).map V.int))):=zG (zG (zN.refl _) hlo) hp
 have pn:H p=none:=(zG (zN.refl _) hlo).free hp
 have hP:upd (upd H lo (.lst [V.int 0])) p (.lst ((List.replicate n (0:Int)).map V.int)) p=some (.lst ((List.replicate n (0:Int)).map V.int)):=zD
 generalize upd (upd H lo (.lst [V.int 0])) p (.lst ((List.replicate n (0:Int)).map V.int))=H0 at smP hP ⊢
 refine⟨_,rfl,_,rfl,r,s',rfl,⟨_,SqL.of (smP _ _ h1)⟩,⟨_,SqL.of (smP _ _ h2)⟩,for_zip (K:=K) (xs:=(ni ps).map V.int) (ys:=xs.map V.int) (by rw[List.length_map,List.length_map,List.length_map,l]) (fun i σ H2=>zN H H2∧(∃ o1 o2:Option V,σ=[some (.int n),some (.ref r),some (.ref s'),some (.ref p),o1,o2])∧H2 p=some (.lst ((Rx.spr n (ps.take i) (xs.take i)).map V.int))) ⟨smP,⟨none,none,rfl⟩,by rw[hP];rfl⟩ (fun i σ H2 _ z=>⟨z.1.seq (SqL.of h1),z.1.seq (SqL.of h2)⟩) ?_ ?_⟩
 ·rintro i x y σ H2 pa hx hy ⟨sm,⟨o1,o2,rfl⟩,hr2⟩ hpa
  obtain⟨c,rfl,hc⟩:=ni_at hx
  obtain⟨v,rfl,hv⟩:=int_at hy
  have cl:=lt c (List.mem_of_getElem? hc)
  have pne:p≠pa:=zY hr2 hpa
  refine⟨pa,_,rfl,SqT.of zD,rfl,_,_,rfl,_,_,rfl,rfl,?_⟩
  refine⟨_,rfl,_,rfl,_,rfl,p,_,_,_,rfl,rfl,(vA pne).trans hr2,zDx (by omega) (by rw[List.length_map,Rx.jR];omega),?_⟩
  refine⟨vT (zG sm hpa) pn,⟨_,_,rfl⟩,?_⟩
  rw[zD,Int.toNat_natCast,set_int]
  have e1:ps.take (i+1)=ps.take i ++ [c]:=by rw[List.take_add_one,hc];rfl
  have e2:xs.take (i+1)=xs.take i ++ [v]:=by rw[List.take_add_one,hv];rfl
  rw[e1,e2]
  unfold Rx.spr
  rw[Rx.spr'_snoc _ _ _ _ _ (by rw[List.length_take,List.length_take,l])]
 ·rintro σ H2 ⟨sm,⟨o1,o2,rfl⟩,hr2⟩
  rw[List.length_map,List.length_map,List.take_length,l,List.take_length] at hr2
  exact⟨_,rfl,q p H2 sm pn hr2⟩
def FoP (H:Hp)(a:Addr)(x:Rx.Fd):Prop:=∃ b,H a=some (.tup [.int x.1,.int x.2.1,.ref b])∧H b=some (.lst (x.2.2.map V.int))
def FoAt (H:Hp)(r:Addr)(fs:List Rx.Fd):Prop:=∃ as:List Addr,H r=some (.lst (as.map V.ref))∧Paired (FoP H) as fs
theorem wQ {α β:Type}{F G:α→β→Prop}:∀ {a:List α}{b:List β},Paired F a b→(∀ x y,F x y→G x y)→Paired G a b
 | _,_,.nil,_=>.nil
 | _,_,.cons h t,i=>.cons (i _ _ h) (wQ t i)
theorem FoAt.same {H H':Hp}(sm:zN H H'){r:Addr}{fs:List Rx.Fd}(h:FoAt H r fs):FoAt H' r fs :=
 let ⟨as,h1,h2⟩:=h;⟨as,sm _ _ h1,wQ h2 fun _ _ ⟨b,u,v⟩=>⟨b,sm _ _ u,sm _ _ v⟩⟩
theorem FoAt.push {H:Hp}{F t b:Addr}{as:List Addr}{fs:List Rx.Fd}{f:Rx.Fd}(hF:H F=some (.lst (as.map V.ref)))(pa:Paired (FoP H) as fs)(ht:H t=some (.tup [.int f.1,.int f.2.1,.ref b]))(hb:H b=some (.lst (f.2.2.map V.int)))(nb:b≠F):FoAt (upd H F (.lst (as.map V.ref ++ [.ref t]))) F (fs ++ [f]):=by
 have old:Paired (FoP (upd H F (.lst (as.map V.ref ++ [.ref t])))) as fs:=by
  have ne:∀ (a:Addr)(x:Rx.Fd),a∈as→FoP H a x→FoP (upd H F (.lst (as.map V.ref ++ [.ref t]))) a x:=fun a x ha ⟨c,u,v⟩=>by
   refine⟨c,(vA (zCf u hF (by intro z;cases z))).trans u,(vA (zCf v hF fun z=>?_)).trans v⟩
   injection z with z
   cases as with
   | nil=>cases ha
   | cons a0 as0=>cases e:x.2.2 with
    | nil=>rw[e] at z;cases z
    | cons y ys=>rw[e] at z;injection z with z1;cases z1
  have go:∀ {as':List Addr}{fs':List Rx.Fd},(∀ a∈as',a∈as)→Paired (FoP H) as' fs'→Paired (FoP (upd H F (.lst (as.map V.ref ++ [.ref t])))) as' fs':=fun {as' fs'} sub p=>by
   induction p with
   | nil=>exact .nil
   | cons h _ ih=>exact .cons (ne _ _ (sub _ List.mem_cons_self) h) (ih fun a ha=>sub a (List.mem_cons_of_mem _ ha))
  exact go (fun a h=>h) pa
 refine⟨as ++ [t],by rw[zD,List.map_append];rfl,L2.Paired.appP old (.cons ⟨b,(vA (zCf ht hF (by intro z;cases z))).trans ht,(vA nb).trans hb⟩ .nil)⟩
theorem in_nat {p:Int}{N:Nat}(pN:p < 2^N){l:List Int}(h:Rx.In p l):Bd N l:=fun x hx=>by
 have:=h x hx
 have e:=zCt N
 omega
def spClr:Sp:=fun vs H Q _=>∃ (r s:Addr)(step:List Int)(fs:List Rx.Fd)(p:Int)(w N:Nat),vs=[.ref r,.ref s,.int p]∧H r=some (.lst (step.map V.int))∧FoAt H s fs∧Rx.Rok p w fs∧step.length=w∧w≤20000∧0 < p∧p < 2^N∧N≤1000000∧∀ t H',zN H H'→H' t=some (.lst ((Rx.clr p fs step).map V.int))→Q (.ref t) H'
theorem zGg (T:Txt K mg C_Frame t_LEAD_BITS t_FIRST_PRIME):Df P w K mg base 2 "cleared" ["step","found","prime"] spClr:=by
 have D_lessened:=zCe (P:=P) (w:=w) (base:=base) T
 refine T.d_cleared.ok zGq (fun vs H Q E h=>?_) (fun f cdv A outer s H vs Q E hr h=>?_)
 ·obtain⟨_,_,_,_,_,_,_,rfl,_⟩:=h;rfl
 obtain⟨r,s',step,fs,p,w',N,rfl,h1,hF,rk,l,lz,p0,pN,N1,q⟩:=h
 obtain⟨as,h2,pa⟩:=id hF
 have la:=zP pa
 have nd:=zGq.nd
 refine⟨_,(zB (v8 (cap:=[("prime",2)]) (tgs:=["weight"]) (i:=3) nd rfl (Or.inl rfl) rfl rfl rfl (by decide +kernel) (by decide +kernel) (vI (by rfl)) (zV rfl vK) (zX ⟨rfl,Or.inl rfl,Or.inl rfl,_,rfl⟩ vH) (vB (by decide)) (vS (pv 0)) (fun C s H fp=>⟨(zL (i:=1) (show (["prime","weight"]:List Str).Nodup by decide +kernel) rfl (Or.inl rfl) (Or.inr rfl)),vJ,(zK vR (pv 1) (pv 0))⟩)) (zB (wM PassesOwn.never rfl (vS (pv 1)) (wB rfl (zO (zL (i:=4) nd rfl (Or.inl rfl)) (zO (zL (i:=5) nd rfl (Or.inl rfl)) (zO (zL (i:=6) nd rfl (Or.inl rfl)) vV)))) (zI (zM (i:=3) nd rfl (Or.inl rfl) (zQ D_lessened (hr.mono (by decide)) (by rfl) (zA (pv 3) (zA (vC vP (pv 3) (pv 5) (fun _ _=>rfl)) (zA (pv 6) (zA (pv 2) zC)))))))) (zI (zU (pv 3))))),?_⟩
 refine⟨_,rfl,r,rfl,⟨_,SqL.of h1⟩,?_⟩
 refine v3 (K:=K) (xs:=step.map V.int) (step.map fun x=>x%p) (by rw[List.length_map,List.length_map]) (by rw[List.length_map];omega) (SqL.of h1) ?_ ?_
 ·intro i x H2 hx sm R k
  obtain⟨u,rfl,hu⟩:=int_at hx
  exact⟨_,rfl,_,rfl,_,_,rfl,rfl,p0,k _ _ (zN.refl _) (by rw[List.getElem?_map,hu];rfl)⟩
 ·intro D H0 sm0 _ hD
  refine⟨_,rfl,s',rfl,⟨_,SqL.of (sm0 _ _ h2)⟩,for_list (K:=K) (xs:=as.map V.ref) (fun i σ H2=>zN H H2∧∃ (tl:Addr)(o1 o2 o3:Option V),σ=[some (.ref r),some (.ref s'),some (.int p),some (.ref tl),o1,o2,o3]∧H2 tl=some (.lst ((Rx.clr p (fs.take i) step).map V.int))) ⟨sm0,D,none,none,none,rfl,hD⟩ (fun i σ H2 _ z=>z.1.seq (SqL.of h2)) ?_ ?_⟩
  ·rintro i x σ H2 hx ⟨sm,tl,o1,o2,o3,rfl,hl⟩
   obtain⟨a,rfl,ha⟩:=zFa hx
   obtain⟨f,hf,b,ht,hb⟩:=v9 pa ha
   have rf:=rk f (List.mem_of_getElem? hf)
   have ok:=Rx.zEo p0 l (fs:=fs.take i) rfl fun f hf=>rk f (List.mem_of_mem_take hf)
   refine⟨a,_,rfl,SqT.of (sm _ _ ht),rfl,_,_,rfl,_,_,rfl,_,_,rfl,rfl,?_⟩
   have cg:atI ((Rx.clr p (fs.take i) step).map V.int) (f.2.1:Int)=some (.int (Lt.g (Rx.clr p (fs.take i) step) f.2.1)):=v4 (by rw[List.getElem?_map,Rx.wI (by omega)];rfl)
   have big:=ok.2.g p0 f.2.1
   have e:=zCt N
   refine⟨_,rfl,_,rfl,_,rfl,tl,_,_,_,rfl,rfl,SqL.of hl,cg,_,rfl,_,rfl,tl,b,_,f.2.2,_,p,N,N,rfl,hl,sm _ _ hb,by rw[ok.1,rf.1],by omega,p0,by omega,in_nat pN rf.2.1,N1,N1,fun t H3 sm3 h3=>?_⟩
   refine⟨sm.trans sm3,t,_,_,_,rfl,?_⟩
   have e1:fs.take (i+1)=fs.take i ++ [f]:=by rw[List.take_add_one,hf];rfl
   rw[e1,Rx.clr_snoc];exact h3
  ·rintro σ H2 ⟨sm,tl,o1,o2,o3,rfl,hl⟩
   rw[List.length_map,la,List.take_length] at hl
   exact⟨_,rfl,q tl H2 sm hl⟩
def spCorn:Sp:=fun vs H Q _=>∃ (r:Addr)(steps:List (List Int))(p:Int)(w N:Nat),vs=[.ref r,.int p]∧wZ H r steps∧(∀ x∈steps,x.length=w)∧w≤20000∧steps.length≤20000∧Pt.Prm p∧p < 2^N∧1≤N∧N≤9000∧∀ t H' fs,zN H H'→H t=none→FoAt H' t fs→Rx.Crn p w steps steps.length fs→Q (.ref t) H'
theorem ok_corners (T:Txt K mg C_Frame t_LEAD_BITS t_FIRST_PRIME):Df P w K mg base 5 "corners" ["steps","prime"] spCorn:=by
 have D_cleared:=zGg (P:=P) (w:=w) (base:=base) T
 have D_first_filled:=zAp (P:=P) (w:=w) (base:=base) T
 have D_taken_times:=zBr (P:=P) (w:=w) (base:=base) T
 have D_back:=ok_back (P:=P) (w:=w) (base:=base) T
 refine T.d_corners.ok zGk (fun vs H Q E h=>?_) (fun f cdv A outer s H vs Q E hr h=>?_)
 ·obtain⟨_,_,_,_,_,rfl,_⟩:=h;rfl
 obtain⟨r,steps,p,w',N,rfl,⟨as,h1,pa⟩,lw,lz,ls,hp,pN,N1,N2,q⟩:=h
 have la:=zP pa
 have p2:=hp.1
 have nd:=zGk.nd
 refine⟨_,(zB (zM (i:=2) nd rfl (Or.inl rfl) (wV zC)) (zB (wM PassesOwn.never rfl (zCb (by rfl) T.b_enumerate (zA (pv 0) zC)) (wB rfl (zO (zL (i:=3) nd rfl (Or.inl rfl)) (zO (zL (i:=4) nd rfl (Or.inl rfl)) vV))) (zB (zM (i:=5) nd rfl (Or.inl rfl) (zQ D_cleared (hr.mono (by decide)) (by rfl) (zA (pv 4) (zA (pv 2) (zA (pv 1) zC))))) (zB (zM (i:=6) nd rfl (Or.inl rfl) (zQ D_first_filled (hr.mono (by decide)) (by rfl) (zA (pv 5) zC))) (zI (wJ (vF op_notN (pv 6) zDh (vM _)) (zI (zCc (pe_bm PySem.F.plainAttrs_list PySem.F.slot_list_append PySem.F.type_list_append jU (pv 2) (zA (wE (zA (pv 3) (zA (pv 6) (zA (zQ D_taken_times (hr.mono (by decide)) (by rfl) (zA (pv 5) (zA (zQ D_back (hr.mono (by decide)) (by rfl) (zA (vC vP (pv 5) (pv 6) (fun _ _=>rfl)) (zA (pv 1) zC))) (zA (pv 1) zC)))) zC)))) zC)))) vQ))))) (zI (zU (pv 2))))),?_⟩
 refine⟨zAu (by decide),fun F hF=>?_⟩
 have smF:zN H (upd H F (.lst [])):=zG (zN.refl _) hF
 refine⟨_,rfl,r,rfl,⟨_,SqL.of (smF _ _ h1)⟩,zBa (K:=K) (xs:=as.map V.ref) (fun i σ H2=>zN H H2∧∃ (fs:List Rx.Fd)(o1 o2 o3 o4:Option V),σ=[some (.ref r),some (.int p),some (.ref F),o1,o2,o3,o4]∧FoAt H2 F fs∧fs.length≤i∧Rx.Crn p w' steps i fs) ⟨smF,[],none,none,none,none,rfl,⟨[],zD,.nil⟩,Nat.le_refl _,.start ..⟩ (fun i σ H2 _ z=>z.1.seq (SqL.of h1)) ?_ ?_⟩
 ·rintro i x σ H2 pp hx ⟨sm,fs,o1,o2,o3,o4,rfl,fo,fl,cn⟩ hpp
  obtain⟨a,step,rfl,ha,hst,hh⟩:=wX pa hx
  have il:i < as.length:=(List.getElem?_eq_some_iff.mp ha).1
  have l:=lw step (List.mem_of_getElem? hst)
  have smp:=zG (o:=.tup [.int (i:Nat),.ref a]) (zN.refl H2) hpp
  refine⟨pp,_,rfl,SqT.of zD,rfl,_,_,rfl,_,_,rfl,rfl,?_⟩
  refine⟨_,rfl,_,rfl,_,rfl,a,F,step,fs,p,w',N,rfl,smp _ _ (sm _ _ hh),fo.same smp,cn.rok,l,lz,by omega,pN,by omega,fun tl H3 sm3 hl=>?_⟩
  have ok:=Rx.zEo (show 0 < p by omega) l rfl cn.rok
  have sm3':=(sm.trans smp).trans sm3
  have fo3:=(fo.same smp).same sm3
  refine⟨_,rfl,tl,_,rfl,hl,by rw[ok.1];exact lz,fun c H4 sm4 hc nz=>?_,fun H4 sm4 z=>?_⟩
  ·rw[ok.1] at hc
   have gb:=ok.2.g (show 0 < p by omega) c
   have hl4:=sm4 _ _ hl
   have cg:atI ((Rx.clr p fs step).map V.int) (c:Int)=some (.int (Lt.g (Rx.clr p fs step) c)):=v4 (by rw[List.getElem?_map,Rx.wI (by omega)];rfl)
   refine⟨_,rfl,rfl,_,rfl,zEr (by simp) ?_⟩
   obtain⟨fas,fh,fpa⟩:=fo3.same sm4
   refine⟨_,rfl,.inl ⟨rfl,_,SqL.of fh⟩,_,rfl,_,rfl,_,rfl,_,rfl,_,rfl,tl,_,_,_,rfl,rfl,SqL.of hl4,cg,_,rfl,_,p,N,rfl,by omega,N1,N2,pN,fun d d1 dp dg=>?_,fun u H5 u1 u2 hu sm5=>?_⟩
   ·rcases Int.lt_or_le d p with c' | c'
    ·rcases Int.lt_or_le d 2 with c'' | c''
     ·omega
     ·exact absurd dp (hp.2 d c'' c')
    ·have:=Int.le_of_dvd (show 0 < Lt.g (Rx.clr p fs step) c by omega) dg
     omega
   have e:=zCt N
   refine⟨_,rfl,tl,_,u,p,N,N,rfl,sm5 _ _ hl4,by rw[ok.1];exact lz,by omega,by omega,in_nat pN ok.2,by omega,by omega,fun tr H6 sm6 h6=>?_⟩
   refine⟨(by show 3≤sizeLine;decide),fun tt htt=>?_⟩
   have smT:=zG (o:=.tup [.int (i:Nat),.int (c:Nat),.ref tr]) (zN.refl H6) htt
   have smA:=(sm5.trans sm6).trans smT
   refine⟨F,_,_,rfl,rfl,smA _ _ fh,?_,?_⟩
   ·rw[List.length_map,zP fpa];exact zCq (by omega)
   ·have pa6:=wQ fpa fun _ _ ⟨b,u,v⟩=>(⟨b,smA _ _ u,smA _ _ v⟩:FoP _ _ _)
    have Fn:H6 F=some (.lst (fas.map V.ref)):=sm6 _ _ (sm5 _ _ fh)
    have nb:tr≠F:=fun z=>by
     rw[z] at h6
     rw[Fn] at h6
     injection h6 with h6
     injection h6 with h6
     have l6:=congrArg List.length h6
     rw[List.length_map,List.length_map,List.length_map,ok.1] at l6
     cases e1:fas with
     | nil=>rw[e1] at l6;simp at l6;omega
     | cons a0 as0=>cases e2:(Rx.clr p fs step) with
      | nil=>rw[e2] at ok;have:=ok.1;simp at this;omega
      | cons y ys=>rw[e1,e2] at h6;injection h6 with z1;cases z1
    refine⟨vT (((sm3'.trans sm4).trans (sm5.trans sm6)).trans smT) hF,fs ++ [((i:Nat),c,(Rx.clr p fs step).map fun x=>x*u%p)],_,_,_,_,rfl,FoAt.push (f:=((i:Nat),c,(Rx.clr p fs step).map fun x=>x*u%p)) (smA _ _ fh) pa6 zD (smT _ _ h6) nb,by rw[List.length_append];show fs.length+1≤_;omega,cn.some hp hst l hc nz hu⟩
  ·refine⟨_,rfl,rfl,_,rfl,zEd (by simp) ?_⟩
   exact⟨sm3'.trans sm4,fs,_,_,_,_,rfl,fo3.same sm4,by omega,cn.none (by omega) hst l (by rw[← ok.1];exact z)⟩
 ·rintro σ H2 ⟨sm,fs,o1,o2,o3,o4,rfl,fo,fl,cn⟩
  rw[List.length_map,la] at cn
  exact⟨_,rfl,q F H2 fs sm hF fo cn⟩
theorem hung_eq {n i:Nat}(h:i < n)(x:Int):Ld.hung n i x=Rx.hun n i x:=by
 unfold Ld.hung Rx.hun
 have:((i:Int)%n).toNat=i:=by rw[Int.emod_eq_of_lt (by omega) (by omega)];omega
 rw[this]
theorem les_bd {N:Nat}{row other:List Int}{many m:Int}(m0:0 < m)(mN:m < 2^N)(h:Bd N row):Bd N (Rx.les row many other m):=by
 unfold Rx.les
 split
 ·exact h
 ·exact in_nat mN (Rx.In.zip m0 _ _ fun x y=>x-many*y)
def spUnd:Sp:=fun vs H Q _=>∃ (r:Addr)(rows:List (List Int))(k E N:Nat)(p:Int),vs=[.ref r,.int (p^E)]∧wZ H r rows∧rows.length=k∧(∀ row∈rows,row.length=k∧Bd N row)∧k≤420∧1≤E∧Pt.Prm p∧p^E < 2^N∧1≤N∧N≤9000∧(∀ c,c≤k→Mx.Ind p c (Rx.mt rows)) ∧
 ∀ t H' us,zN H H'→H t=none→wZ H' t us→us.length=k→(∀ u∈us,u.length=k∧Bd N u)→Mx.LI (p^E) k (Rx.mt us) (Rx.mt rows)→Q (.ref t) H'
theorem zFx (T:Txt K mg C_Frame t_LEAD_BITS t_FIRST_PRIME):Df P w K mg base 5 "undone_rows" ["rows","modulus"] spUnd:=by
 have D_hung:=ok_hung (P:=P) (w:=w) (base:=base) T
 have D_lessened:=zCe (P:=P) (w:=w) (base:=base) T
 have D_taken_times:=zBr (P:=P) (w:=w) (base:=base) T
 have D_back:=ok_back (P:=P) (w:=w) (base:=base) T
 refine T.d_undone_rows.ok zBp (fun vs H Q E h=>?_) (fun f cdv A outer s H vs Q E hr h=>?_)
 ·obtain⟨_,_,_,_,_,_,rfl,_⟩:=h;rfl
 obtain⟨r,rows,k,E',N,p,rfl,⟨as,h1,pa⟩,lr,lw,k4,E1,hp,mN,N1,N2,ind,q⟩:=h
 have la:=zP pa
 have p2:=hp.1
 have nd:=zBp.nd
 have m0:0 < p^E':=Int.pow_pos (by omega)
 have pm:p∣p^E':=by
  obtain⟨e,rfl⟩:∃ e,E'=e+1:=⟨E'-1,by omega⟩
  exact⟨p^e,by rw[Int.pow_succ,Int.mul_comm]⟩
 have eN:=zCt N
 have N2':2≤2^N:=Nat.pow_le_pow_right (n:=2) (by decide) N1
 generalize hm:p^E'=m at *
 refine⟨_,(zB (zM (i:=2) nd rfl (Or.inr rfl) (zT zS (by rfl) T.b_len L2.v6 (zA (pv 0) zC))) (zB (v8 (cap:=[("size",2)]) (tgs:=["number","row"]) (i:=3) nd rfl (Or.inl rfl) rfl rfl rfl (by decide +kernel) (by decide +kernel) (vI (by rfl)) (zV rfl vK) (zX ⟨rfl,Or.inl rfl,Or.inl rfl,_,rfl⟩ vH) (v5 (by decide) (by decide)) (zCb (by rfl) T.b_enumerate (zA (pv 0) zC)) (fun C s H fp=>⟨(wB rfl (zO (zL (i:=1) (show (["size","number","row"]:List Str).Nodup by decide +kernel) rfl (Or.inl rfl) (Or.inr rfl)) (zO (zL (i:=2) (show (["size","number","row"]:List Str).Nodup by decide +kernel) rfl (Or.inl rfl) (Or.inr rfl)) vV))),vJ,(zK zFb (pv 2) (zQ D_hung (hr.mono (by decide)) (by rfl) (zA (pv 0) (zA (pv 1) (zA zE zC)))))⟩)) (zB (wM PassesOwn.never rfl (wN (by rfl) T.b_range (zA (pv 2) zC)) (zL (i:=4) nd rfl (Or.inr rfl)) (zB (zM (i:=5) nd rfl (Or.inr rfl) (zQ D_taken_times (hr.mono (by decide)) (by rfl) (zA (vC vP (pv 3) (pv 4) (fun _ _=>rfl)) (zA (zQ D_back (hr.mono (by decide)) (by rfl) (zA (vC vP (vC vP (pv 3) (pv 4) (fun _ _=>rfl)) (pv 4) (fun _ _=>rfl)) (zA (pv 1) zC))) (zA (pv 1) zC))))) (zB (v8 (cap:=[("lead",5),("modulus",1),("column",4)]) (tgs:=["row"]) (i:=3) nd rfl (Or.inl rfl) rfl rfl rfl (by decide +kernel) (by decide +kernel) (vI (by rfl)) (zV rfl (zV rfl (zV rfl vK))) (zX ⟨rfl,Or.inl rfl,Or.inl rfl,_,rfl⟩ (zX ⟨rfl,Or.inl rfl,Or.inl rfl,_,rfl⟩ (zX ⟨rfl,Or.inl rfl,Or.inl rfl,_,rfl⟩ vH))) (vB (by decide)) (vS (pv 3)) (fun C s H fp=>⟨(zL (i:=3) (show (["lead","modulus","column","row"]:List Str).Nodup by decide +kernel) rfl (Or.inl rfl) (Or.inr rfl)),vJ,(zQ D_lessened (hr.mono (by decide)) (by rfl) (zA (pv 3) (zA (vC (zBb (K:=K) rfl) (pv 3) (pv 2) (fun _ _=>rfl)) (zA (pv 0) (zA (pv 1) zC)))))⟩)) (zI (zCr (pv 5) (zDl (pv 3) (pv 4) set_list)))))) (zI (zU (zZ (cap:=[("size",2)]) (tgs:=["row"])  rfl rfl rfl (by decide +kernel) (by decide +kernel) (vI (by rfl)) (zV rfl vK) (zX ⟨rfl,Or.inl rfl,Or.inl rfl,_,rfl⟩ vH) (vB (by decide)) (vS (pv 3)) (fun C s H fp=>⟨(zL (i:=1) (show (["size","row"]:List Str).Nodup by decide +kernel) rfl (Or.inl rfl) (Or.inr rfl)),vJ,(j6 (sl_listK (K:=K) rfl) (pv 1) (wU (pv 0)) po_none)⟩))))))),?_⟩
 refine⟨_,rfl,r,_,rfl,.inl (SqL.of h1),?_⟩
 rw[List.length_map,la,lr]
 refine⟨_,rfl,r,rfl,⟨_,SqL.of h1⟩,?_⟩
 refine comp_toE (K:=K) (xs:=as.map V.ref) (Rx.aug k rows) (by unfold Rx.aug;rw[List.length_mapIdx,List.length_map,la]) (by rw[List.length_map,la];omega) (SqL.of h1) ?_ ?_
 ·intro i x H2 pp hx sm hpp R kk
  obtain⟨a,row,rfl,ha,hrow,hh⟩:=wX pa hx
  have il:i < k:=by rw[← lr];exact (List.getElem?_eq_some_iff.mp hrow).1
  have rl:=lw row (List.mem_of_getElem? hrow)
  have smp:=zG (o:=.tup [.int (i:Nat),.ref a]) (zN.refl H2) hpp
  refine⟨pp,_,rfl,SqT.of zD,rfl,_,_,rfl,_,_,rfl,rfl,?_⟩
  refine⟨_,rfl,_,rfl,_,rfl,k,(i:Nat),1,rfl,by omega,by omega,fun ht H3 sm3 _ h3=>?_⟩
  rw[hung_eq il] at h3
  refine⟨a,ht,_,_,rfl,rfl,sm3 _ _ (smp _ _ (sm _ _ hh)),h3,?_,fun c hc=>?_⟩
  ·rw[List.length_map,List.length_map,Rx.zAa,rl.1];exact zAu (by omega)
  ·rw[← List.map_append]
   exact kk _ c (row ++ Rx.hun k i 1) (zG (smp.trans sm3) hc) (by unfold Rx.aug;rw[List.getElem?_mapIdx,hrow];rfl) zD
 intro D H0 sm0 nD hD
 have gj0:=Rx.aug_gj (m:=m) lr fun row h=>(lw row h).1
 have au:(Rx.aug k rows).length=k∧∀ row∈Rx.aug k rows,row.length=k+k∧Bd N row:=by
  refine⟨by unfold Rx.aug;rw[List.length_mapIdx,lr],fun row hrow=>?_⟩
  obtain⟨i,hi,e⟩:=List.getElem_of_mem hrow
  unfold Rx.aug at e hi
  rw[List.getElem_mapIdx] at e
  rw[List.length_mapIdx] at hi
  have rl:=lw _ (List.getElem_mem hi)
  rw[← e]
  refine⟨by rw[List.length_append,Rx.zAa,rl.1],fun x hx=>?_⟩
  rcases List.mem_append.mp hx with c | c
  ·exact rl.2 x c
  ·obtain⟨j,hj,ej⟩:=Rx.zGa c
   rw[Rx.zBu (by omega)] at ej
   split at ej <;> (rw[← ej];omega)
 refine⟨_,rfl,k,rfl,by omega,by omega,jY (n:=k) (fun i σ H2=>zN H H2∧∃ (tl:Addr)(ls:List (List Int))(o1 o2:Option V),σ=[some (.ref r),some (.int m),some (.int k),some (.ref tl),o1,o2]∧wZ H2 tl ls∧ls.length=k∧(∀ row∈ls,row.length=k+k∧Bd N row)∧Mx.Gj m k (Rx.mt rows) i (Rx.wl k ls) (Rx.wr k ls)) ⟨sm0,D,_,none,none,rfl,hD,au.1,au.2,gj0⟩ ?_ ?_⟩
 ·rintro c σ H2 hc ⟨sm,tl,ls,o1,o2,rfl,⟨bs,t1,pb⟩,ll,lb,gj⟩
  have lbs:=zP pb
  have hrow:=Rx.wD (rows:=ls) (i:=c) (by omega)
  have rl:=lb _ (Rx.vZ (rows:=ls) (i:=c) (by omega))
  obtain⟨a,hat,ha⟩:=at_row pb hrow
  have cg:atI ((ls.getD c []).map V.int) (c:Int)=some (.int (Lt.g (ls.getD c []) c)):=v4 (by rw[List.getElem?_map,Rx.wI (by omega)];rfl)
  have piv:¬ p∣Lt.g (ls.getD c []) c:=by
   have:=gj.pivot p2 pm hc (ind (c+1) hc)
   unfold Rx.wl at this
   rwa [Int.toNat_natCast] at this
  refine⟨_,rfl,_,rfl,tl,_,_,_,rfl,rfl,SqL.of t1,hat,_,rfl,_,rfl,tl,_,_,_,rfl,rfl,SqL.of t1,hat,_,rfl,a,_,_,_,rfl,rfl,SqL.of ha,cg,_,rfl,_,m,N,rfl,by omega,N1,N2,mN,fun d d1 dm dg=>Rx.cop_one hp piv d1 (by rw[hm];exact dm) dg,fun u H3 u1 u2 hu sm3=>?_⟩
  refine⟨_,rfl,a,_,u,m,N,N,rfl,sm3 _ _ ha,by omega,m0,by omega,rl.2,by omega,by omega,fun le H4 sm4 h4=>?_⟩
  obtain⟨lead,hlead⟩:∃ lead:List Int,lead=(ls.getD c []).map fun x=>x*u%m:=⟨_,rfl⟩
  rw[← hlead] at h4
  have lel:lead.length=k+k:=by rw[hlead,List.length_map,rl.1]
  have lei:Bd N lead:=by rw[hlead];exact in_nat mN (Rx.In.mod m0 _ fun x=>x*u)
  have t4:=sm4 _ _ (sm3 _ _ t1)
  have pb4:=vN (sm3.trans sm4) pb
  refine⟨_,rfl,tl,rfl,⟨_,SqL.of t4⟩,?_⟩
  refine zCm (K:=K) (xs:=bs.map V.ref) (ls.map fun row=>Rx.les row (Lt.g row c) lead m) (by rw[List.length_map,List.length_map,lbs]) (by rw[List.length_map];omega) (SqL.of t4) ?_ ?_
  ·intro i x H5 hx sm5 R kk
   obtain⟨b,row,rfl,hb,hr5,hh5⟩:=wX pb4 hx
   have rl5:=lb row (List.mem_of_getElem? hr5)
   have cg5:atI (row.map V.int) (c:Int)=some (.int (Lt.g row c)):=v4 (by rw[List.getElem?_map,Rx.wI (by omega)];rfl)
   have gb:=rl5.2 _ (Rx.j8 (l:=row) (i:=c) (by omega))
   exact⟨_,rfl,_,rfl,_,rfl,b,_,_,_,rfl,rfl,SqL.of (sm5 _ _ hh5),cg5,_,rfl,_,rfl,b,le,row,lead,_,m,N,N,rfl,sm5 _ _ hh5,sm5 _ _ h4,by rw[rl5.1,lel],by omega,m0,gb,lei,by omega,by omega,fun t H6 sm6 h6=>kk H6 t _ sm6 (by rw[List.getElem?_map,hr5];rfl) h6⟩
  intro D2 H5 sm5 nD2 ⟨es,e1,pe⟩
  have les:=zP pe
  rw[List.length_map] at les
  refine⟨_,rfl,_,rfl,_,rfl,D2,_,_,_,rfl,rfl,e1,zDx (by omega) (by rw[List.length_map];omega),?_⟩
  have smc:=(sm.trans sm3).trans sm4
  have u1':=Rx.und1_len (m:=m) (v:=u) ll hc fun row h=>(lb row h).1
  have eq:(ls.map fun row=>Rx.les row (Lt.g row c) lead m).set c lead=Rx.und1 m c u ls:=by unfold Rx.und1;rw[hlead]
  refine⟨vT (smc.trans sm5) (smc.free nD2),D2,Rx.und1 m c u ls,_,_,rfl,?_,u1'.1,fun row hrow=>⟨u1'.2 row hrow,?_⟩,Rx.und1_gj ll (fun row h=>(lb row h).1) gj hc hu⟩
  ·rw[← eq,Int.toNat_natCast]
   exact wZ.put e1 pe (fun z=>by rw[z] at les;simp at les;omega) (sm5 _ _ h4)
  ·rw[← eq] at hrow
   rcases List.mem_or_eq_of_mem_set hrow with z | z
   ·obtain⟨y,hy,rfl⟩:=List.mem_map.mp z
    exact les_bd m0 mN (lb y hy).2
   ·rw[z];exact lei
 ·rintro σ H2 ⟨sm,tl,ls,o1,o2,rfl,⟨bs,t1,pb⟩,ll,lb,gj⟩
  have lbs:=zP pb
  refine⟨_,rfl,tl,rfl,⟨_,SqL.of t1⟩,?_⟩
  refine zCm (K:=K) (xs:=bs.map V.ref) (ls.map fun row=>row.drop k) (by rw[List.length_map,List.length_map,lbs]) (by rw[List.length_map];omega) (SqL.of t1) ?_ ?_
  ·intro i x H5 hx sm5 R kk
   obtain⟨b,row,rfl,hb,hr5,hh5⟩:=wX pb hx
   refine⟨_,rfl,_,rfl,_,rfl,b,_,rfl,SqL.of (sm5 _ _ hh5),fun c hc=>?_⟩
   rw[cut_from]
   exact kk _ c (row.drop k) (zG (zN.refl _) hc) (by rw[List.getElem?_map,hr5];rfl) zD
  ·intro D2 H5 sm5 nD2 hD2
   refine q D2 H5 _ (sm.trans sm5) (sm.free nD2) hD2 (by rw[List.length_map,ll]) (fun u hu=>?_) (Rx.drop_li ll gj)
   obtain⟨y,hy,rfl⟩:=List.mem_map.mp hu
   exact⟨by rw[List.length_drop,(lb y hy).1];omega,fun x hx=>(lb y hy).2 x (List.mem_of_mem_drop hx)⟩
theorem ix_tupF {X:Cx}{K:PySem.W.Frag}(h:X.K=K):IxR X (rIxT K):=by subst h;exact vD
theorem bts_lt {x m:Int}(x0:0≤x)(m0:0≤m)(h:bts x≤m):x < 2^m.toNat:=by
 have e:=zCt m.toNat
 unfold bts Builtin.Int.intBits at h
 by_cases z:x=0
 ·rw[z];exact Int.pow_pos (by decide)
 ·rw[if_neg (by simpa using z)] at h
  have:=(Nat.log2_lt (show x.natAbs≠0 by omega)).mp (show x.natAbs.log2 < m.toNat by omega)
  omega
theorem bts_ge2 {x m:Int}(x0:0≤x)(m0:0≤m)(h:m < bts x):2^m.toNat≤x:=bts_ge x0 m0 h
theorem half_bits {sc bits:Int}(s0:64≤sc)(e:bits=(bts sc-2)/2):0≤bits∧2≤(2:Int)^bits.toNat∧2*((2:Int)^bits.toNat*2^bits.toNat)≤sc∧sc < 8*((2:Int)^bits.toNat*2^bits.toNat):=by
 have b6:6 < bts sc:=by
  rcases Int.lt_or_le 6 (bts sc) with c | c
  ·exact c
  ·have:=bts_lt (by omega) (show (0:Int)≤6 by decide) c
   have e6:(2:Int)^(6:Int).toNat=64:=by decide
   omega
 have lo:=bts_ge2 (x:=sc) (m:=bts sc-1) (by omega) (by omega) (by omega)
 have hi:=bts_lt (x:=sc) (m:=bts sc) (by omega) (by omega) (Int.le_refl _)
 have p1:(2:Int)^bits.toNat*2^bits.toNat=2^(bits.toNat+bits.toNat):=by rw[Int.pow_add]
 have b2:bits.toNat=(bits.toNat-1)+1:=by omega
 refine⟨by omega,?_,?_,?_⟩
 ·rw[b2,Int.pow_succ]
  have:(1:Int)≤2^(bits.toNat-1):=Int.pow_pos (by decide)
  omega
 ·rw[p1]
  have a:(2:Int)^(bits.toNat+bits.toNat+1)≤2^(bts sc-1).toNat:=by
   have n1:=zCt (bits.toNat+bits.toNat+1)
   have n2:=zCt (bts sc-1).toNat
   have:=Nat.pow_le_pow_right (n:=2) (by decide) (show bits.toNat+bits.toNat+1≤(bts sc-1).toNat by omega)
   omega
  rw[Int.pow_succ] at a
  omega
 ·rw[p1]
  have a:(2:Int)^(bts sc).toNat≤2^(bits.toNat+bits.toNat+3):=by
   have n1:=zCt (bits.toNat+bits.toNat+3)
   have n2:=zCt (bts sc).toNat
   have:=Nat.pow_le_pow_right (n:=2) (by decide) (show (bts sc).toNat≤bits.toNat+bits.toNat+3 by omega)
   omega
  rw[show bits.toNat+bits.toNat+3=bits.toNat+bits.toNat+1+1+1 from rfl,Int.pow_succ,Int.pow_succ,Int.pow_succ] at a
  omega
def spLB:Sp:=fun vs H Q _=>∃ (x sc bits:Int)(N:Nat),vs=[.int x,.int sc,.int bits]∧0≤x∧x < sc∧0≤bits∧2^bits.toNat≤sc∧1≤N∧N≤9000∧sc < 2^N∧∀ H' r0 r1 c0 c1,zN H H'→Eb.St sc x r0 r1 c0 c1→2^bits.toNat≤r0→r1 < 2^bits.toNat→(c1.natAbs:Int)≤sc→Q (.int c1.natAbs) H'
theorem zEq (T:Txt K mg C_Frame t_LEAD_BITS t_FIRST_PRIME):Df P w K mg base 4 "least_bottom" ["number","scale","bits"] spLB:=by
 have D_euclid:=zFr (P:=P) (w:=w) (base:=base) T
 refine T.d_least_bottom.ok zAs (fun vs H Q E h=>?_) (fun f cdv A outer s H vs Q E hr h=>?_)
 ·obtain⟨_,_,_,_,rfl,_⟩:=h;rfl
 obtain⟨x,sc,bits,N,rfl,x0,x1,b0,bs,N1,N2,fN,q⟩:=h
 have nd:=zAs.nd
 refine⟨_,(zI (zU (zT zAf (by rfl) T.b_abs L2.zEj (zA (vC vD (zQ D_euclid (hr.mono (by decide)) (by rfl) (zA (pv 1) (zA (pv 0) (zA (pv 2) zC)))) zE (fun _ _=>rfl)) zC)))),?_⟩
 refine⟨_,rfl,_,rfl,_,rfl,sc,x,bits,N,rfl,by omega,x0,b0,N1,N2,fN,by omega,fun t H1 r0 c0 r1 c1 sm h1 S p0 bz big _=>?_⟩
 have i3:atI [V.int r0,V.int c0,V.int r1,V.int c1] 3=some (.int c1):=rfl
 refine⟨t,_,_,_,rfl,rfl,SqT.of h1,i3,_,rfl,?_⟩
 have e:(if c1 < 0 then -c1 else c1)=(c1.natAbs:Int):=by split <;> omega
 rw[e]
 exact q H1 r0 r1 c0 c1 sm S (by rcases big with z | z <;> omega) (bts_lt S.p1 b0 bz) (S.c1 (by omega) p0)
def spFrac (K:PySem.W.Frag):Sp:=fun vs H Q _=>∃ (r:Addr)(l:List Int)(sc:Int)(N:Nat),vs=[.ref r,.int sc]∧H r=some (.lst (l.map V.int))∧l.length≤20000∧Rx.In sc l∧64≤sc∧1≤N∧N≤9000∧sc < 2^N ∧
 ∀ Hh:Int,2≤Hh→2*(Hh*Hh)≤sc→sc < 8*(Hh*Hh)→(∀ H' l1 l2 b,zN H H'→l=l1 ++ l2→Rx.Fra sc Hh l1 b→Hh≤b→Q .non H') ∧
  ∀ t tt H' b,zN H H'→H' t=some (.tup [.ref tt,.int b])→H' tt=some (.lst ((l.map fun x=>Rx.cn (x*b) sc).map V.int))→Rx.Fra sc Hh l b→b < Hh→Q (.ref t) H'
theorem ok_fractions (T:Txt K mg C_Frame t_LEAD_BITS t_FIRST_PRIME):Df P w K mg base 5 "fractions" ["rests","scale"] (spFrac K):=by
 have D_least_bottom:=zEq (P:=P) (w:=w) (base:=base) T
 have D_centred:=zGf (P:=P) (w:=w) (base:=base) T
 refine T.d_fractions.ok zDw (fun vs H Q E h=>?_) (fun f cdv A outer s H vs Q E hr h=>?_)
 ·obtain⟨_,_,_,_,rfl,_⟩:=h;rfl
 obtain⟨r,l,sc,N,rfl,h1,lz,li,s6,N1,N2,fN,q⟩:=h
 have nd:=zDw.nd
 have eN:=zCt N
 refine⟨_,(zB (zM (i:=2) nd rfl (Or.inl rfl) (zK vO (zK jD (pe_bm0 PySem.F.plainAttrs_int PySem.F.slot_int_bit_length PySem.F.type_int_bit_length zFc (pv 1)) zE) zE)) (zB (zM (i:=3) nd rfl (Or.inr rfl) zE) (zB (wM PassesOwn.never rfl (vS (pv 0)) (zL (i:=4) nd rfl (Or.inl rfl)) (zB (zM (i:=3) nd rfl (Or.inr rfl) (zK vG (pv 3) (zQ D_least_bottom (hr.mono (by decide)) (by rfl) (zA (zK vR (zK vG (pv 4) (pv 3)) (pv 1)) (zA (pv 1) (zA (pv 2) zC)))))) (zI (wJ (vF op_gt (pe_bm0 PySem.F.plainAttrs_int PySem.F.slot_int_bit_length PySem.F.type_int_bit_length zFc (pv 3)) (pv 2) (vM _)) (zI (zU zDh)) vQ)))) (zI (zU (wE (zA (zZ (cap:=[("scale",1),("bottom",3)]) (tgs:=["number"])  rfl rfl rfl (by decide +kernel) (by decide +kernel) (vI (by rfl)) (zV rfl (zV rfl vK)) (zX ⟨rfl,Or.inl rfl,Or.inl rfl,_,rfl⟩ (zX ⟨rfl,Or.inl rfl,Or.inl rfl,_,rfl⟩ vH)) (vB (by decide)) (vS (pv 0)) (fun C s H fp=>⟨(zL (i:=2) (show (["scale","bottom","number"]:List Str).Nodup by decide +kernel) rfl (Or.inl rfl) (Or.inr rfl)),vJ,(zQ D_centred (hr.mono (by decide)) (by rfl) (zA (zK vG (pv 2) (pv 1)) (zA (pv 0) zC)))⟩)) (zA (pv 3) zC)))))))),?_⟩
 refine⟨_,rfl,rfl,_,rfl,rfl,_,_,rfl,rfl,_,_,rfl,rfl,wF (by decide) (by decide),?_⟩
 obtain⟨bits,hb⟩:∃ bits:Int,bits=(bts sc-2)/2:=⟨_,rfl⟩
 dsimp only
 rw[← hb]
 have hf:=half_bits s6 hb
 have qq:=q _ hf.2.1 hf.2.2.1 hf.2.2.2
 obtain⟨Hh,hHh⟩:∃ Hh:Int,Hh=2^bits.toNat:=⟨_,rfl⟩
 rw[← hHh] at hf qq
 have HHH:Hh≤Hh*Hh:=by have:=Int.mul_le_mul_of_nonneg_right (show 1≤Hh by omega) (show 0≤Hh by omega);omega
 have HN:Hh < 2^N:=by omega
 refine⟨_,rfl,r,rfl,⟨_,SqL.of h1⟩,for_list (K:=K) (xs:=l.map V.int) (fun i σ H2=>zN H H2∧∃ (b:Int)(o:Option V),σ=[some (.ref r),some (.int sc),some (.int bits),some (.int b),o]∧Rx.Fra sc Hh (l.take i) b∧b < Hh) ⟨zN.refl _,1,none,rfl,.nil,by omega⟩ (fun i σ H2 _ z=>z.1.seq (SqL.of h1)) ?_ ?_⟩
 ·rintro i x σ H2 hx ⟨sm,b,o,rfl,fr,bH⟩
  obtain⟨u,rfl,hu⟩:=int_at hx
  have um:=li u (List.mem_of_getElem? hu)
  have b0:=fr.pos (by omega)
  have m0:=Int.emod_nonneg (u*b) (show sc≠0 by omega)
  have m1:=Int.emod_lt_of_pos (u*b) (show 0 < sc by omega)
  refine⟨_,rfl,_,rfl,_,rfl,_,_,rfl,rfl,mulN (N:=N) (M:=N) (by omega) (by omega) (by omega) (by omega),_,rfl,_,_,rfl,rfl,(show 0 < sc by omega),_,rfl,_,rfl,_,sc,bits,N,rfl,m0,m1,hf.1,by rw[← hHh];omega,N1,N2,fN,fun H3 r0 r1 c0 c1 sm3 S h0 h1' cb=>?_⟩
  rw[← hHh] at h0 h1'
  refine⟨_,_,rfl,rfl,mulN (N:=N) (M:=N) (by omega) (by omega) (by omega) (by omega),?_⟩
  have fr2:Rx.Fra sc Hh (l.take (i+1)) (b*c1.natAbs):=by
   rw[List.take_add_one,hu];exact fr.snoc S h0 h1'
  have b20:=fr2.pos (by omega)
  refine⟨_,rfl,rfl,_,rfl,rfl,_,rfl,_,_,rfl,rfl,_,rfl,zCs (fun c=>?_) (fun c=>?_)⟩
  ·have gt:=dec c
   have:=bts_ge2 (by omega) hf.1 gt
   rw[← hHh] at this
   exact qq.1 H3 (l.take (i+1)) (l.drop (i+1)) _ (sm.trans sm3) (List.take_append_drop ..).symm fr2 this
  ·have le:=ndec c
   have:=bts_lt (x:=b*c1.natAbs) (by omega) hf.1 (by omega)
   rw[← hHh] at this
   exact⟨sm.trans sm3,_,_,rfl,fr2,this⟩
 ·rintro σ H2 ⟨sm,b,o,rfl,fr,bH⟩
  rw[List.length_map,List.take_length] at fr
  have b0:=fr.pos (by omega)
  refine⟨_,rfl,r,rfl,⟨_,SqL.of (sm _ _ h1)⟩,?_⟩
  refine v3 (K:=K) (xs:=l.map V.int) (l.map fun x=>Rx.cn (x*b) sc) (by rw[List.length_map,List.length_map]) (by rw[List.length_map];exact lz) (SqL.of (sm _ _ h1)) ?_ ?_
  ·intro i x H3 hx sm3 R k
   obtain⟨u,rfl,hu⟩:=int_at hx
   have um:=li u (List.mem_of_getElem? hu)
   exact⟨_,rfl,_,rfl,_,_,rfl,rfl,mulN (N:=N) (M:=N) (by omega) (by omega) (by omega) (by omega),_,rfl,_,sc,rfl,by omega,k _ _ (zN.refl _) (by rw[List.getElem?_map,hu];rfl)⟩
  ·intro D H3 sm3 _ hD
   refine⟨_,rfl,(by show 2≤sizeLine;decide),fun t ht=>?_⟩
   exact qq.2 t D _ b (zG (sm.trans sm3) ht) zD (zG (zN.refl _) ht _ _ hD) fr bH
def IsTold (H:Hp)(rows:List (List Int))(goal:List Int)(k:Nat)(tv:V)(Q:VK):Prop :=
 ((tv=.non∧∀ H',zN H H'→Q (.bl false) H')∨∃ (t tt:Addr)(tops:List Int)(b:Int),tv=.ref t∧H t=some (.tup [.ref tt,.int b])∧H tt=some (.lst (tops.map V.int))∧tops.length=k∧Bd 20000 tops∧b.natAbs < 2^20000 ∧
  (∀ H',zN H H'→(∀ i,i < k→Rx.dot (rows.getD i []) tops=b*Lt.g goal i)→Q (.bl true) H')∧∀ H',zN H H'→¬ (∀ i,i < k→Rx.dot (rows.getD i []) tops=b*Lt.g goal i)→Q (.bl false) H')
def spIs (K:PySem.W.Frag):Sp:=fun vs H Q _=>∃ (r s:Addr)(rows:List (List Int))(goal:List Int)(k:Nat)(tv:V),vs=[.ref r,.ref s,tv]∧wZ H r rows∧H s=some (.lst (goal.map V.int))∧rows.length=k∧(∀ row∈rows,row.length=k∧Bd 20000 row)∧goal.length=k∧Bd 20000 goal∧k≤20000∧IsTold H rows goal k tv Q
theorem zFz (T:Txt K mg C_Frame t_LEAD_BITS t_FIRST_PRIME):Df P w K mg base 3 "is_solution" ["rows","goal","told"] (spIs K):=by
 have D_weighed:=zBe (P:=P) (w:=w) (base:=base) T
 refine T.d_is_solution.ok zBi (fun vs H Q E h=>?_) (fun f cdv A outer s H vs Q E hr h=>?_)
 ·obtain⟨_,_,_,_,_,_,rfl,_⟩:=h;rfl
 obtain⟨r,s',rows,goal,k,tv,rfl,⟨as,h1,pa⟩,h2,lr,lw,lg,bg,kz,tl⟩:=h
 have nd:=zBi.nd
 have la:=zP pa
 refine⟨_,(zB (wJ (vF op_isN (pv 2) zDh (vM _)) (zI (zU pe_bl)) vQ) (zI (zU (zT (call_allB rfl) (by rfl) T.b_all L2.bi_all (zA (zZ (cap:=[("told",2)]) (tgs:=["row","number"])  rfl rfl rfl (by decide +kernel) (by decide +kernel) (vI (by rfl)) (zV rfl vK) (zX ⟨rfl,Or.inl rfl,Or.inl rfl,_,rfl⟩ vH) (v5 (by decide) (by decide)) (zBl (by rfl) T.b_zip (zA (pv 0) (zA (pv 1) zC))) (fun C s H fp=>⟨(wB rfl (zO (zL (i:=1) (show (["told","row","number"]:List Str).Nodup by decide +kernel) rfl (Or.inl rfl) (Or.inr rfl)) (zO (zL (i:=2) (show (["told","row","number"]:List Str).Nodup by decide +kernel) rfl (Or.inl rfl) (Or.inr rfl)) vV))),vJ,(zDc zCw (zQ D_weighed (hr.mono (by decide)) (by rfl) (zA (pv 1) (zA (vC (ix_tupF (K:=K) rfl) (pv 0) zE (fun _ _=>rfl)) zC))) (zK vG (vC (ix_tupF (K:=K) rfl) (pv 0) zE (fun _ _=>rfl)) (pv 2)) (vM _))⟩)) zC))))),?_⟩
 refine⟨_,rfl,rfl,_,rfl,?_⟩
 rcases tl with ⟨rfl,q⟩ | ⟨t,tt,tops,b,rfl,ht,htt,lt,bt,bb,qt,qf⟩
 ·exact zEr (by simp) (q H (zN.refl _))
 refine zEd (by simp) ?_
 have i0:atI [V.ref tt,V.int b] 0=some (.ref tt):=rfl
 have i1:atI [V.ref tt,V.int b] 1=some (.int b):=rfl
 refine⟨_,rfl,_,rfl,r,s',rfl,⟨_,SqL.of h1⟩,⟨_,SqL.of h2⟩,?_⟩
 obtain⟨zs,hzs⟩:∃ zs:List Bool,zs=(List.range k).map fun i=>decide (Rx.dot (rows.getD i []) tops=b*Lt.g goal i):=⟨_,rfl⟩
 have lzs:zs.length=k:=by rw[hzs,List.length_map,List.length_range]
 refine comp_toZB (K:=K) (xs:=as.map V.ref) (ys:=goal.map V.int) zs (by rw[List.length_map,List.length_map,la,lr,lg]) (by rw[lzs,List.length_map,la,lr]) (by rw[List.length_map];omega) (SqL.of h1) (SqL.of h2) ?_ ?_
 ·intro i x y H2 p hx hy sm hp R kk
  obtain⟨a,row,rfl,ha,hrow,hh⟩:=wX pa hx
  obtain⟨v,rfl,hv⟩:=int_at hy
  have il:i < k:=by rw[← lr];exact (List.getElem?_eq_some_iff.mp hrow).1
  have rl:=lw row (List.mem_of_getElem? hrow)
  have smp:=zG (o:=.tup [.ref a,.int v]) (zN.refl H2) hp
  have sma:=sm.trans smp
  refine⟨p,_,rfl,SqT.of zD,rfl,_,_,rfl,_,_,rfl,rfl,?_⟩
  refine⟨_,rfl,_,rfl,t,_,_,_,rfl,rfl,SqT.of (sma _ _ ht),i0,a,tt,row,tops,20000,20000,rfl,SqL.of (sma _ _ hh),SqL.of (sma _ _ htt),by rw[rl.1,lt],by omega,rl.2,bt,by decide,by decide,fun H3 sm3=>?_⟩
  refine⟨_,rfl,t,_,_,_,rfl,rfl,SqT.of (sm3 _ _ (sma _ _ ht)),i1,_,rfl,_,_,rfl,rfl,mulN (N:=20000) (M:=20000) bb (bg v (List.mem_of_getElem? hv)) (by decide) (by decide),rfl,?_⟩
  refine kk _ _ (smp.trans sm3) ?_
  rw[hzs,List.getElem?_map,List.getElem?_range il]
  show some _=_
  dsimp only
  rw[Rx.getR hrow,Rx.wH hv]
  congr 1
  exact decide_eq_decide.mpr ⟨fun e=>by rw[e],fun e=>by injection e⟩
 ·intro D H2 sm _ hD
  refine⟨D,zs,rfl,SqL.of hD,?_⟩
  by_cases al:∀ i,i < k→Rx.dot (rows.getD i []) tops=b*Lt.g goal i
  ·have:zs.all id=true:=by
    rw[List.all_eq_true]
    intro z hz
    rw[hzs] at hz
    obtain⟨i,hi,rfl⟩:=List.mem_map.mp hz
    exact decide_eq_true (al i (List.mem_range.mp hi))
   rw[this];exact qt H2 sm al
  ·have:zs.all id=false:=by
    rcases e:zs.all id with _ | _
    ·rfl
    ·exfalso
     rw[List.all_eq_true] at e
     refine al fun i hi=>?_
     have:=e (decide (Rx.dot (rows.getD i []) tops=b*Lt.g goal i)) (by rw[hzs];exact List.mem_map.mpr ⟨i,List.mem_range.mpr hi,rfl⟩)
     exact of_decide_eq_true this
   rw[this];exact qf H2 sm al
theorem zBy {N M:Nat}{l:List Int}(h:Bd N l)(le:N≤M):Bd M l:=fun x hx=>Nat.lt_of_lt_of_le (h x hx) (Nat.pow_le_pow_right (by decide) le)
def spSol (K:PySem.W.Frag):Sp:=fun vs H Q _=>∃ (r u s:Addr)(rows us:List (List Int))(goal:List Int)(k E N D B:Nat)(p:Int),vs=[.ref r,.ref u,.int (p^E),.ref s]∧wZ H r rows∧wZ H u us∧H s=some (.lst (goal.map V.int))∧rows.length=k∧(∀ row∈rows,row.length=k∧Bd N row)∧us.length=k∧(∀ row∈us,row.length=k∧Bd N row)∧goal.length=k∧Bd N goal∧k≤420∧1≤N∧N≤9000∧64≤p^E∧Rx.Sc p k (Rx.mt rows) (Rx.fn goal) D B∧Mx.RI (p^E) k (Rx.mt rows) (Rx.mt us)∧1≤B∧128*((B:Int)*B)*(128*((B:Int)*B))*p^E≤2^N ∧
 ∀ t tt H' tops b,zN H H'→H' t=some (.tup [.ref tt,.int b])→H' tt=some (.lst (tops.map V.int))→tops.length=k→1≤b→b∣(D:Int)→b < 2^N→Bd N tops→(∀ i:Nat,i < k→(Ld.S k fun t=>Rx.mt rows i t*Rx.fn tops t)=b*Rx.fn goal i)→Q (.ref t) H'
theorem ok_solved (T:Txt K mg C_Frame t_LEAD_BITS t_FIRST_PRIME):Df P w K mg base 6 "solved" ["rows","undoing","modulus","goal"] (spSol K):=by
 have D_weighed:=zBe (P:=P) (w:=w) (base:=base) T
 have D_is_solution:=zFz (P:=P) (w:=w) (base:=base) T
 have D_fractions:=ok_fractions (P:=P) (w:=w) (base:=base) T
 refine T.d_solved.ok sc_solved (fun vs H Q E h=>?_) (fun f cdv A outer s H vs Q E hr h=>?_)
 ·obtain⟨_,_,_,_,_,_,_,_,_,_,_,_,rfl,_⟩:=h;rfl
 obtain⟨r,u,s',rows,us,goal,k,E',N,D,B,p,rfl,hR,hU,hG,lr,lw,lu,lv,lg,bg,k4,N1,N2,m6,S,ri,B1,lim,q⟩:=h
 obtain⟨as,h1,pa⟩:=id hR
 obtain⟨bs,h2,pb⟩:=id hU
 have la:=zP pa
 have lb:=zP pb
 have nd:=sc_solved.nd
 have eN:=zCt N
 have p2:=S.hp.1
 obtain⟨m,hm⟩:∃ m:Int,m=p^E':=⟨_,rfl⟩
 rw[← hm] at m6 ri lim ⊢
 obtain⟨Lm,hLm⟩:∃ Lm:Int,Lm=128*((B:Int)*B):=⟨_,rfl⟩
 rw[← hLm] at lim
 have Lm1:1 < Lm:=by
  have:(1:Int)*1≤(B:Int)*B:=Int.mul_le_mul (by omega) (by omega) (by omega) (by omega)
  omega
 have mN:m < 2^N:=by
  have a:(2:Int)*2≤Lm*Lm:=Int.mul_le_mul (by omega) (by omega) (by omega) (by omega)
  have:=Int.mul_le_mul_of_nonneg_right a (show 0≤m by omega)
  omega
 have pw:∀ d:Nat,m^d=p^(E'*d):=fun d=>by rw[hm,Int.pow_mul]
 have mp:∀ d:Nat,1≤m^d:=fun d=>Int.pow_pos (by omega)
 have rb:∀ i t:Nat,i < k→t < k→(Rx.mt rows i t).natAbs≤2^N:=fun i t hi ht=>by
  rw[Rx.zHf]
  have l:=lw _ (Rx.vZ (rows:=rows) (i:=i) (by omega))
  exact Nat.le_of_lt (l.2 _ (Rx.j8 (by omega)))
 have gb:∀ i:Nat,i < k→(Rx.fn goal i).natAbs≤2^N:=fun i hi=>by
  unfold Rx.fn
  rw[Int.toNat_natCast]
  exact Nat.le_of_lt (bg _ (Rx.j8 (by omega)))
 have lfb:∀ (d:Nat)(rests left:List Int),left.length=k→Mx.Lif k (Rx.mt rows) (Rx.fn goal) (m^d) (Rx.fn rests) (Rx.fn left)→Bd (N+10) left:=fun d rests left ll lif x hx=>by
  obtain⟨i,hi,e⟩:=Rx.zGa hx
  have:=Rx.left_bd (mp d) lif rb gb i (by omega)
  unfold Rx.fn at this
  rw[Int.toNat_natCast,e] at this
  have e10:2^(N+10)=2^N*1024:=by rw[Nat.pow_add]
  have:k*2^N≤420*2^N:=Nat.mul_le_mul_right _ k4
  have:=Nat.pow_pos (n:=N) (show 0 < 2 by decide)
  omega
 have rsi:∀ (d:Nat)(rests left:List Int),rests.length=k→Mx.Lif k (Rx.mt rows) (Rx.fn goal) (m^d) (Rx.fn rests) (Rx.fn left)→Rx.In (m^d) rests:=fun d rests left ll lif x hx=>by
  obtain⟨i,hi,e⟩:=Rx.zGa hx
  have:=lif.rg i (by omega)
  unfold Rx.fn at this
  rwa [Int.toNat_natCast,e] at this
 have big1:∀ d j:Nat,m^d < Lm→j≤d+1→m^(d+j) < 2^N∧d < N:=fun d j lt le=>by
  have a:m^(d+j)≤m^(d+(d+1)):=by
   rw[show d+(d+1)=d+j+(d+1-j) by omega,Int.pow_add m (d+j)]
   have:=Int.mul_le_mul_of_nonneg_left (mp (d+1-j)) (show 0≤m^(d+j) by have:=mp (d+j);omega)
   omega
  have b:m^(d+(d+1))=m^d*m^d*m:=by rw[Int.pow_add,Int.pow_succ,Int.mul_assoc]
  have c:m^d*m^d≤(Lm-1)*(Lm-1):=Int.mul_le_mul (by omega) (by omega) (by have:=mp d;omega) (by omega)
  have c2:(Lm-1)*(Lm-1)=Lm*Lm-2*Lm+1:=by grind
  have c3:=Int.mul_le_mul_of_nonneg_right (show m^d*m^d≤Lm*Lm-1 by omega) (show 0≤m by omega)
  rw[Int.sub_mul] at c3
  refine⟨by omega,?_⟩
  have e1:m^d≤m^(d+(d+1)):=by
   rw[Int.pow_add]
   have:=Int.mul_le_mul_of_nonneg_left (mp (d+1)) (show 0≤m^d by have:=mp d;omega)
   omega
  have e2:(2:Int)^d≤m^d:=by
   have:=Nat.pow_le_pow_left (show 2≤m.toNat by omega) d
   have e3:((m.toNat^d:Nat):Int)=m^d:=by rw[Int.natCast_pow,show ((m.toNat:Nat):Int)=m by omega]
   have e4:=zCt d
   omega
  have e4:=zCt d
  exact (Nat.pow_lt_pow_iff_right (a:=2) (by decide)).mp (by omega)
 refine⟨_,(zB (zM (i:=4) nd rfl (Or.inl rfl) (zK zEx (wV (zA zE zC)) (zT zS (by rfl) T.b_len L2.v6 (zA (pv 3) zC)))) (zB (zM (i:=5) nd rfl (Or.inl rfl) (wE (zA (pv 4) (zA zE zC)))) (zB (zM (i:=6) nd rfl (Or.inr rfl) (pv 3)) (zB (zM (i:=7) nd rfl (Or.inr rfl) zE) (zB (zM (i:=8) nd rfl (Or.inl rfl) zE) (zB (w5 PassesOwn.never (zHc (zHa (zQ D_is_solution (hr.mono (by decide)) (by rfl) (zA (pv 0) (zA (pv 3) (zA (pv 5) zC)))))) (zB (wM PassesOwn.never rfl (wN (by rfl) T.b_range (zA (pv 8) zC)) (zL (i:=9) nd rfl (Or.inl rfl)) (zB (zM (i:=10) nd rfl (Or.inr rfl) (zZ (cap:=[("modulus",2),("left",6)]) (tgs:=["row"])  rfl rfl rfl (by decide +kernel) (by decide +kernel) (vI (by rfl)) (zV rfl (zV rfl vK)) (zX ⟨rfl,Or.inl rfl,Or.inl rfl,_,rfl⟩ (zX ⟨rfl,Or.inl rfl,Or.inl rfl,_,rfl⟩ vH)) (vB (by decide)) (vS (pv 1)) (fun C s H fp=>⟨(zL (i:=2) (show (["modulus","left","row"]:List Str).Nodup by decide +kernel) rfl (Or.inl rfl) (Or.inr rfl)),vJ,(zK vR (zQ D_weighed (hr.mono (by decide)) (by rfl) (zA (pv 2) (zA (pv 1) zC))) (pv 0))⟩))) (zB (zM (i:=6) nd rfl (Or.inr rfl) (zZ (cap:=[("modulus",2),("more",10)]) (tgs:=["row","number"])  rfl rfl rfl (by decide +kernel) (by decide +kernel) (vI (by rfl)) (zV rfl (zV rfl vK)) (zX ⟨rfl,Or.inl rfl,Or.inl rfl,_,rfl⟩ (zX ⟨rfl,Or.inl rfl,Or.inl rfl,_,rfl⟩ vH)) (v5 (by decide) (by decide)) (zBl (by rfl) T.b_zip (zA (pv 0) (zA (pv 6) zC))) (fun C s H fp=>⟨(wB rfl (zO (zL (i:=2) (show (["modulus","more","row","number"]:List Str).Nodup by decide +kernel) rfl (Or.inl rfl) (Or.inr rfl)) (zO (zL (i:=3) (show (["modulus","more","row","number"]:List Str).Nodup by decide +kernel) rfl (Or.inl rfl) (Or.inr rfl)) vV))),vJ,(zK vO (zK jD (pv 3) (zQ D_weighed (hr.mono (by decide)) (by rfl) (zA (pv 2) (zA (pv 1) zC)))) (pv 0))⟩))) (zB (v8 (cap:=[("scale",7)]) (tgs:=["number","beyond"]) (i:=4) nd rfl (Or.inl rfl) rfl rfl rfl (by decide +kernel) (by decide +kernel) (vI (by rfl)) (zV rfl vK) (zX ⟨rfl,Or.inl rfl,Or.inl rfl,_,rfl⟩ vH) (v5 (by decide) (by decide)) (zBl (by rfl) T.b_zip (zA (pv 4) (zA (pv 10) zC))) (fun C s H fp=>⟨(wB rfl (zO (zL (i:=1) (show (["scale","number","beyond"]:List Str).Nodup by decide +kernel) rfl (Or.inl rfl) (Or.inr rfl)) (zO (zL (i:=2) (show (["scale","number","beyond"]:List Str).Nodup by decide +kernel) rfl (Or.inl rfl) (Or.inr rfl)) vV))),vJ,(zK vU (pv 1) (zK vG (pv 0) (pv 2)))⟩)) (zI (zM (i:=7) nd rfl (Or.inr rfl) (zK vG (pv 7) (pv 2)))))))) (zB (zM (i:=5) nd rfl (Or.inl rfl) (zQ D_fractions (hr.mono (by decide)) (by rfl) (zA (pv 4) (zA (pv 7) zC)))) (zI (zM (i:=8) nd rfl (Or.inl rfl) (zK vU (zK vU (pv 8) (zK vO (pv 8) zE)) zE)))))) (zI (zU (pv 5))))))))),?_⟩
 refine⟨(by show 1≤sizeLine;decide),fun lo hlo=>⟨_,rfl,s',_,rfl,.inl (SqL.of (zG (zN.refl _) hlo _ _ hG)),?_⟩⟩
 rw[List.length_map,lg]
 refine⟨lo,_,_,rfl,rfl,zD,by omega,by omega,(by show 1*_≤_;exact zAu (by omega)),fun tr htr=>?_⟩
 rw[rep0]
 refine⟨_,rfl,(by show 2≤sizeLine;decide),fun t0 ht0=>?_⟩
 have smL:=zG (o:=.lst [V.int 0]) (zN.refl H) hlo
 have smR:=zG (o:=.lst ((List.replicate k (0:Int)).map V.int)) smL htr
 have sm0:=zG (o:=.tup [V.ref tr,V.int 1]) smR ht0
 have hr0:=zG (o:=.tup [V.ref tr,V.int 1]) (zN.refl _) ht0 _ _ (zD (H:=upd H lo (.lst [V.int 0])) (a:=tr) (o:=.lst ((List.replicate k (0:Int)).map V.int)))
 have hT0:upd (upd (upd H lo (.lst [V.int 0])) tr (.lst ((List.replicate k (0:Int)).map V.int))) t0 (.tup [V.ref tr,V.int 1]) t0=some (.tup [V.ref tr,V.int 1]):=zD
 generalize upd (upd (upd H lo (.lst [V.int 0])) tr (.lst ((List.replicate k (0:Int)).map V.int))) t0 (.tup [V.ref tr,V.int 1])=H0 at sm0 hr0 hT0 ⊢
 refine⟨_,rfl,?_⟩
 have lif0:Mx.Lif k (Rx.mt rows) (Rx.fn goal) (m^0) (Rx.fn (List.replicate k (0:Int))) (Rx.fn goal):=by
  have z:Rx.fn (List.replicate k (0:Int))=fun _=>0:=by
   funext c
   unfold Rx.fn
   rcases Nat.lt_or_ge c.toNat k with y | y
   ·exact Rx.g_rep y
   ·exact Rx.g_out (by rw[List.length_replicate];exact y)
  rw[z,Int.pow_zero];exact Mx.Lif.start ..
 refine⟨fun mm σ H'=>zN H H'∧∃ (d many:Nat)(tr tl:Addr)(rests left:List Int)(tv:V)(o1 o2:Option V),σ=[some (.ref r),some (.ref u),some (.int m),some (.ref s'),some (.ref tr),some tv,some (.ref tl),some (.int (m^d)),some (.int many),o1,o2]∧H' tr=some (.lst (rests.map V.int))∧H' tl=some (.lst (left.map V.int))∧rests.length=k∧left.length=k∧Mx.Lif k (Rx.mt rows) (Rx.fn goal) (m^d) (Rx.fn rests) (Rx.fn left)∧1≤many∧many≤d+1∧mm=(Lm-m^d).toNat ∧
   ((tv=.non∧m^d < Lm)∨∃ (t tt:Addr)(tops:List Int)(b:Int),tv=.ref t∧H' t=some (.tup [.ref tt,.int b])∧H' tt=some (.lst (tops.map V.int))∧tops.length=k∧Bd N tops∧1≤b∧b < 2^N ∧
    ((∀ i:Nat,i < k→(Ld.S k fun t=>Rx.mt rows i t*Rx.fn tops t)=b*Rx.fn goal i)→b∣(D:Int))∧(¬ (∀ i:Nat,i < k→(Ld.S k fun t=>Rx.mt rows i t*Rx.fn tops t)=b*Rx.fn goal i)→m^d < Lm)),
  ⟨_,sm0,0,1,tr,s',List.replicate k 0,goal,.ref t0,none,none,by rw[Int.pow_zero];rfl,hr0,sm0 _ _ hG,List.length_replicate,lg,lif0,Nat.le_refl 1,Nat.le_refl 1,rfl,.inr ⟨t0,tr,List.replicate k 0,1,rfl,hT0,hr0,List.length_replicate,fun x hx=>by rw[(List.mem_replicate.mp hx).2];exact Nat.pow_pos (by decide),Int.le_refl 1,by omega,fun _=>Int.one_dvd _,fun _=>by rw[Int.pow_zero];exact Lm1⟩⟩,?_⟩
 rintro mm σ H' ⟨sm,d,many,tr,tl,rests,left,tv,o1,o2,rfl,hr',hl',lrs,ll,lif,mn1,mn2,rfl,tok⟩
 have eqs:∀ (tops:List Int)(b:Int),tops.length=k→((∀ i,i < k→Rx.dot (rows.getD i []) tops=b*Lt.g goal i)↔∀ i:Nat,i < k→(Ld.S k fun t=>Rx.mt rows i t*Rx.fn tops t)=b*Rx.fn goal i):=fun tops b lt=>by
  have e:∀ i,i < k→(Rx.dot (rows.getD i []) tops=b*Lt.g goal i↔(Ld.S k fun t=>Rx.mt rows i t*Rx.fn tops t)=b*Rx.fn goal i):=fun i hi=>by
   rw[Rx.dot_mt lr (fun row h=>(lw row h).1) hi lt]
   unfold Rx.fn
   rw[Int.toNat_natCast]
  exact⟨fun h i hi=>(e i hi).mp (h i hi),fun h i hi=>(e i hi).mpr (h i hi)⟩
 have rows20:∀ row∈rows,row.length=k∧Bd 20000 row:=fun row h=>⟨(lw row h).1,zBy (lw row h).2 (by omega)⟩
 have goal20:Bd 20000 goal:=zBy bg (by omega)
 have cases_:∀ Qq:VK,(∀ H1,zN H' H1→m^d < Lm→Qq (.bl false) H1)→(∀ H1 t tt tops b,zN H' H1→tv=.ref t→H' t=some (.tup [.ref tt,.int b])→H' tt=some (.lst (tops.map V.int))→tops.length=k→Bd N tops→1≤b→b < 2^N→b∣(D:Int)→(∀ i:Nat,i < k→(Ld.S k fun t=>Rx.mt rows i t*Rx.fn tops t)=b*Rx.fn goal i)→Qq (.bl true) H1) →
   IsTold H' rows goal k tv Qq:=fun Qq F Y=>by
  rcases tok with ⟨e,lt⟩ | ⟨t,tt,tops,b,e,ht,htt,lt,bt,b1,b2,y,n⟩
  ·exact .inl ⟨e,fun H1 s1=>F H1 s1 lt⟩
  ·exact .inr ⟨t,tt,tops,b,e,ht,htt,lt,zBy bt (by omega),Nat.lt_of_lt_of_le (show b.natAbs < 2^N by omega) (Nat.pow_le_pow_right (by decide) (by omega)),fun H1 s1 al=>Y H1 t tt tops b s1 e ht htt lt bt b1 b2 (y ((eqs tops b lt).mp al)) ((eqs tops b lt).mp al),fun H1 s1 al=>F H1 s1 (n fun z=>al ((eqs tops b lt).mpr z))⟩
 clear tok
 refine⟨_,rfl,_,rfl,_,rfl,r,s',rows,goal,k,tv,rfl,hR.same sm,sm _ _ hG,lr,rows20,lg,goal20,by omega,cases_ _ (fun H1 sm1 lt=>?_) (fun H1 t tt tops b sm1 e ht htt lt bt b1 b2 bD sol=>?_)⟩
 rotate_left
 ·refine⟨_,rfl,zEd (by decide) ?_⟩
  subst e
  exact⟨_,rfl,q t tt H1 tops b (sm.trans sm1) (sm1 _ _ ht) (sm1 _ _ htt) lt b1 bD b2 bt sol⟩
 refine⟨_,rfl,zEr (by decide) ⟨_,fun _ _ h=>h,?_⟩⟩
 have smH:=sm.trans sm1
 have dN:=(big1 d 0 lt (by omega)).2
 refine⟨_,rfl,many,rfl,by omega,by omega,jY (n:=many) (fun j σ H2=>zN H H2∧∃ (tr tl:Addr)(rests left:List Int)(o1 o2:Option V),σ=[some (.ref r),some (.ref u),some (.int m),some (.ref s'),some (.ref tr),some tv,some (.ref tl),some (.int (m^(d+j))),some (.int many),o1,o2]∧H2 tr=some (.lst (rests.map V.int))∧H2 tl=some (.lst (left.map V.int))∧rests.length=k∧left.length=k∧Mx.Lif k (Rx.mt rows) (Rx.fn goal) (m^(d+j)) (Rx.fn rests) (Rx.fn left)) ⟨smH,tr,tl,rests,left,o1,o2,rfl,sm1 _ _ hr',sm1 _ _ hl',lrs,ll,lif⟩ ?_ ?_⟩
 ·rintro j σ H2 hj ⟨sm2,tr,tl,rests,left,o1,o2,rfl,hr',hl',lrs,ll,lif⟩
  have lbd:=lfb (d+j) rests left ll lif
  have rin:=rsi (d+j) rests left lrs lif
  have bg1:=big1 d j lt (by omega)
  have h2':=sm2 _ _ h2
  refine⟨_,rfl,u,rfl,⟨_,SqL.of h2'⟩,?_⟩
  obtain⟨more,hmore⟩:∃ more:List Int,more=us.map fun u=>Rx.dot u left%m:=⟨_,rfl⟩
  have lm:more.length=k:=by rw[hmore,List.length_map,lu]
  have min_:Rx.In m more:=by rw[hmore];intro x hx;obtain⟨y,_,rfl⟩:=List.mem_map.mp hx;exact⟨Int.emod_nonneg _ (by omega),Int.emod_lt_of_pos _ (by omega)⟩
  refine v3 (K:=K) (xs:=bs.map V.ref) more (by rw[lm,List.length_map,lb,lu]) (by rw[List.length_map];omega) (SqL.of h2') ?_ ?_
  ·intro i x H3 hx sm3 R kk
   obtain⟨a,row,rfl,ha,hrow,hh⟩:=wX pb hx
   have rl:=lv row (List.mem_of_getElem? hrow)
   exact⟨_,rfl,_,rfl,a,tl,row,left,N,N+10,rfl,SqL.of (sm3 _ _ (sm2 _ _ hh)),SqL.of (sm3 _ _ hl'),by rw[rl.1,ll],by omega,rl.2,lbd,by omega,by omega,fun H4 sm4=>⟨_,rfl,_,_,rfl,rfl,(show 0 < m by omega),kk _ _ sm4 (by rw[hmore,List.getElem?_map,hrow];rfl)⟩⟩
  intro tm H3 sm3 _ hm3
  have h1':=sm3 _ _ (sm2 _ _ h1)
  have hl3:=sm3 _ _ hl'
  have mb:Bd N more:=fun x hx=>by have:=min_ x hx;omega
  refine⟨_,rfl,_,rfl,r,tl,rfl,⟨_,SqL.of h1'⟩,⟨_,SqL.of hl3⟩,?_⟩
  obtain⟨zAm,hleft⟩:∃ zAm:List Int,zAm=List.zipWith (fun row x=>(x-Rx.dot row more)/m) rows left:=⟨_,rfl⟩
  have ll':zAm.length=k:=by rw[hleft,List.length_zipWith,lr,ll,Nat.min_self]
  refine zBd (K:=K) (xs:=as.map V.ref) (ys:=left.map V.int) zAm (by rw[List.length_map,List.length_map,la,lr,ll]) (by rw[ll',List.length_map,la,lr]) (by rw[List.length_map];omega) (SqL.of h1') (SqL.of hl3) ?_ ?_
  ·intro i x y H4 pp hx hy sm4 hpp R kk
   obtain⟨a,row,rfl,ha,hrow,hh⟩:=wX pa hx
   obtain⟨v,rfl,hv⟩:=int_at hy
   have rl:=lw row (List.mem_of_getElem? hrow)
   have smp:=zG (o:=.tup [.ref a,.int v]) (zN.refl H4) hpp
   refine⟨pp,_,rfl,SqT.of zD,rfl,_,_,rfl,_,_,rfl,rfl,?_⟩
   exact⟨_,rfl,_,rfl,_,rfl,a,tm,row,more,N,N,rfl,SqL.of (smp _ _ (sm4 _ _ (sm3 _ _ (sm2 _ _ hh)))),SqL.of (smp _ _ (sm4 _ _ hm3)),by rw[rl.1,lm],by omega,rl.2,mb,by omega,by omega,fun H5 sm5=>⟨_,_,rfl,rfl,_,rfl,_,_,rfl,rfl,div9 (by omega) (show m.natAbs < 2^N by omega) N2,kk _ _ (smp.trans sm5) (by rw[hleft,List.getElem?_zipWith,hrow,hv])⟩⟩
  intro tl2 H4 sm4 _ hl4
  have hr4:=sm4 _ _ (sm3 _ _ hr')
  have hm4:=sm4 _ _ hm3
  refine⟨_,rfl,_,rfl,tr,tm,rfl,⟨_,SqL.of hr4⟩,⟨_,SqL.of hm4⟩,?_⟩
  obtain⟨rests',hrests⟩:∃ rests':List Int,rests'=List.zipWith (fun r y=>r+m^(d+j)*y) rests more:=⟨_,rfl⟩
  have lrs':rests'.length=k:=by rw[hrests,List.length_zipWith,lrs,lm,Nat.min_self]
  refine zBd (K:=K) (xs:=rests.map V.int) (ys:=more.map V.int) rests' (by rw[List.length_map,List.length_map,lrs,lm]) (by rw[lrs',List.length_map,lrs]) (by rw[List.length_map];omega) (SqL.of hr4) (SqL.of hm4) ?_ ?_
  ·intro i x y H5 pp hx hy sm5 hpp R kk
   obtain⟨v1,rfl,hv1⟩:=int_at hx
   obtain⟨v2,rfl,hv2⟩:=int_at hy
   refine⟨pp,_,rfl,SqT.of zD,rfl,_,_,rfl,_,_,rfl,rfl,?_⟩
   have:=mp (d+j)
   exact⟨_,rfl,_,rfl,_,rfl,_,_,rfl,rfl,mulN (N:=N+1) (M:=N) (by rw[Nat.pow_succ];omega) (mb v2 (List.mem_of_getElem? hv2)) (by omega) (by omega),_,_,rfl,rfl,kk _ _ (zG (zN.refl _) hpp) (by rw[hrests,List.getElem?_zipWith,hv1,hv2])⟩
  intro tr2 H5 sm5 _ hr5
  have:=mp (d+j)
  refine⟨_,rfl,_,rfl,_,_,rfl,rfl,mulN (N:=N+1) (M:=N+1) (by rw[Nat.pow_succ];omega) (by rw[Nat.pow_succ];omega) (by omega) (by omega),?_⟩
  refine⟨((sm2.trans sm3).trans sm4).trans sm5,tr2,tl2,rests',zAm,some (V.int j),some (V.ref tm),?_,hr5,sm5 _ _ hl4,lrs',ll',?_⟩
  ·rw[show d+(j+1)=d+j+1 from rfl,Int.pow_succ];rfl
  ·rw[show d+(j+1)=d+j+1 from rfl,Int.pow_succ,hleft,hrests]
   exact Rx.lif_list (by omega) (mp (d+j)) lr (fun row h=>(lw row h).1) lu (fun row h=>(lv row h).1) lrs ll ri lif hmore
 ·rintro σ H2 ⟨sm2,tr,tl,rests,left,o1,o2,rfl,hr',hl',lrs,ll,lif⟩
  have bg1:=big1 d many lt mn2
  have rin:=rsi (d+many) rests left lrs lif
  have m64:64≤m^(d+many):=by
   rw[show d+many=d+many-1+1 by omega,Int.pow_succ]
   have:=Int.mul_le_mul_of_nonneg_right (mp (d+many-1)) (show 0≤m by omega)
   omega
  have grow:m^d < m^(d+many):=by
   rw[Int.pow_add]
   have a:m≤m^many:=by
    rw[show many=many-1+1 by omega,Int.pow_succ]
    have:=Int.mul_le_mul_of_nonneg_right (mp (many-1)) (show 0≤m by omega)
    omega
   have:=Int.mul_le_mul_of_nonneg_left (show 2≤m^many by omega) (show 0≤m^d by have:=mp d;omega)
   have:=mp d
   omega
  have ew:=pw (d+many)
  have lif':=lif
  rw[ew] at lif'
  have em:(many:Int)+(many:Int)/2+1=((many+many/2+1:Nat):Int):=by omega
  have hm2:many+many/2+1≤d+many+1:=by omega
  have fnm:∀ (b:Int),Rx.fn (rests.map fun x=>Rx.cn (x*b) (m^(d+many)))=fun t=>if t.toNat < k then Rx.cn (Rx.fn rests t*b) (m^(d+many)) else 0:=fun b=>by
   funext t
   unfold Rx.fn
   by_cases c:t.toNat < k
   ·rw[if_pos c,Rx.zEe (by omega)]
   ·rw[if_neg c,Rx.g_out (by rw[List.length_map];omega)]
  refine⟨_,rfl,_,rfl,tr,rests,m^(d+many),N,rfl,hr',by omega,rin,m64,N1,N2,bg1.1,fun Hh h2h HH H8=>⟨fun H3 l1 l2 b sm3 el fr Hb=>?_,fun t tt H3 b sm3 ht htt fr bH=>?_⟩⟩
  ·have lt':m^(d+many) < Lm:=by
    rw[hLm,ew]
    rw[ew] at fr HH H8
    exact S.none lif' lrs el fr Hb (by omega) HH H8
   refine⟨_,rfl,_,rfl,_,_,rfl,rfl,wF (by decide) (by decide),_,_,rfl,rfl,_,_,rfl,rfl,?_⟩
   exact⟨(Lm-m^(d+many)).toNat,by omega,sm2.trans sm3,d+many,many+many/2+1,tr,tl,rests,left,.non,o1,o2,(by rw[← em];rfl),sm3 _ _ hr',sm3 _ _ hl',lrs,ll,lif,by omega,hm2,rfl,.inl ⟨rfl,lt'⟩⟩
  ·have HHH:Hh≤Hh*Hh:=by have:=Int.mul_le_mul_of_nonneg_right (show 1≤Hh by omega) (show 0≤Hh by omega);omega
   have b0:=fr.pos (by omega)
   have sc0:0 < m^(d+many):=by omega
   have key:(∀ i:Nat,i < k→(Ld.S k fun t=>Rx.mt rows i t*Rx.fn (rests.map fun x=>Rx.cn (x*b) (m^(d+many))) t)=b*Rx.fn goal i)↔∀ i:Nat,i < k→(Ld.S k fun t=>Rx.mt rows i t*Rx.cn (Rx.fn rests t*b) (p^(E'*(d+many))))=b*Rx.fn goal i:=by
    have e:∀ i:Nat,(Ld.S k fun t=>Rx.mt rows i t*Rx.fn (rests.map fun x=>Rx.cn (x*b) (m^(d+many))) t)=Ld.S k fun t=>Rx.mt rows i t*Rx.cn (Rx.fn rests t*b) (p^(E'*(d+many))):=fun i=>Ld.zH fun t ht=>by
     rw[fnm,← ew]
     dsimp only
     rw[if_pos (by omega)]
    exact⟨fun h i hi=>by rw[← e];exact h i hi,fun h i hi=>by rw[e];exact h i hi⟩
   refine⟨_,rfl,_,rfl,_,_,rfl,rfl,wF (by decide) (by decide),_,_,rfl,rfl,_,_,rfl,rfl,?_⟩
   refine⟨(Lm-m^(d+many)).toNat,by omega,sm2.trans sm3,d+many,many+many/2+1,tr,tl,rests,left,.ref t,o1,o2,(by rw[← em];rfl),sm3 _ _ hr',sm3 _ _ hl',lrs,ll,lif,by omega,hm2,rfl,.inr ⟨t,tt,_,b,rfl,ht,htt,by rw[List.length_map,lrs],fun x hx=>?_,by omega,by omega,fun sol=>?_,fun nsol=>?_⟩⟩
   ·obtain⟨y,_,rfl⟩:=List.mem_map.mp hx
    have r0:=Int.emod_nonneg (y*b) (show m^(d+many)≠0 by omega)
    have r1:=Int.emod_lt_of_pos (y*b) sc0
    unfold Rx.cn
    split <;> omega
   ·have sol':=key.mp sol
    rw[ew] at fr HH
    exact S.bot lif' lrs fr bH (by omega) HH sol'
   ·rw[hLm,ew]
    rw[ew] at fr HH H8
    exact S.not lif' lrs fr (by omega) HH H8 fun z=>nsol (key.mpr z)
theorem pe_fldK {X:Cx}{K:PySem.W.Frag}{e:Expr}{f:Str}{pos:Pos}{ta:TE}(h:X.K=K)(he:PE X e ta)(hb:attributeBase e f X.env (eval e X.env)=eval e X.env):PE X (.Attribute e f pos) (tFld K ta f):=by subst h;exact wL he hb
theorem jJ (f:Str)(v:V):∀ {fs:List (Str×V)}{n:Nat},fs.length≤n→(zBg f v fs).length≤n+1
 | [],n,_=>by show 1≤n+1;omega
 | (g,x)::r,n,h=>by
  show (if g=f then (g,v)::r else (g,x)::zBg f v r).length≤n+1
  rw[List.length_cons] at h
  split
  ·rw[List.length_cons];omega
  ·rw[List.length_cons]
   have:=jJ f v (fs:=r) (n:=n-1) (by omega)
   omega
def F1 (w:Int):List (Str×V):=zBg "size" (.int w) []
theorem F1_len (w:Int):(F1 w).length≤1:=by
 unfold F1
 exact jJ _ _ (Nat.le_refl 0)
def F2 (w:Int)(p:Int):List (Str×V):=zBg "prime" (.int p) (F1 w)
theorem F2_len (w:Int)(p:Int):(F2 w p).length≤2:=by
 unfold F2
 exact jJ _ _ (F1_len w)
def F3 (w:Int)(p:Int)(fo:Addr):List (Str×V):=zBg "found" (.ref fo) (F2 w p)
theorem F3_len (w:Int)(p:Int)(fo:Addr):(F3 w p fo).length≤3:=by
 unfold F3
 exact jJ _ _ (F2_len w p)
def F4 (w:Int)(p:Int)(fo:Addr)(ch:Addr):List (Str×V):=zBg "chosen" (.ref ch) (F3 w p fo)
theorem F4_len (w:Int)(p:Int)(fo:Addr)(ch:Addr):(F4 w p fo ch).length≤4:=by
 unfold F4
 exact jJ _ _ (F3_len w p fo)
def F5 (w:Int)(p:Int)(fo:Addr)(ch:Addr)(co:Addr):List (Str×V):=zBg "columns" (.ref co) (F4 w p fo ch)
theorem F5_len (w:Int)(p:Int)(fo:Addr)(ch:Addr)(co:Addr):(F5 w p fo ch co).length≤5:=by
 unfold F5
 exact jJ _ _ (F4_len w p fo ch)
def F6 (w:Int)(p:Int)(fo:Addr)(ch:Addr)(co:Addr)(ro:Addr):List (Str×V):=zBg "rows" (.ref ro) (F5 w p fo ch co)
theorem F6_len (w:Int)(p:Int)(fo:Addr)(ch:Addr)(co:Addr)(ro:Addr):(F6 w p fo ch co ro).length≤6:=by
 unfold F6
 exact jJ _ _ (F5_len w p fo ch co)
def F7 (w:Int)(p:Int)(fo:Addr)(ch:Addr)(co:Addr)(ro:Addr)(md:Int):List (Str×V):=zBg "modulus" (.int md) (F6 w p fo ch co ro)
theorem F7_len (w:Int)(p:Int)(fo:Addr)(ch:Addr)(co:Addr)(ro:Addr)(md:Int):(F7 w p fo ch co ro md).length≤7:=by
 unfold F7
 exact jJ _ _ (F6_len w p fo ch co ro)
def F8 (w:Int)(p:Int)(fo:Addr)(ch:Addr)(co:Addr)(ro:Addr)(md:Int)(un:Addr):List (Str×V):=zBg "undoing" (.ref un) (F7 w p fo ch co ro md)
theorem F3_found (w:Int)(p:Int)(fo:Addr):(F3 w p fo).lookup ("found":Str)=some (.ref fo):=by
 unfold F3
 rw[zF,if_pos rfl]
theorem F4_found (w:Int)(p:Int)(fo:Addr)(ch:Addr):(F4 w p fo ch).lookup ("found":Str)=some (.ref fo):=by
 unfold F4
 rw[zF,if_neg (by decide +kernel)]
 unfold F3
 rw[zF,if_pos rfl]
theorem F5_chosen (w:Int)(p:Int)(fo:Addr)(ch:Addr)(co:Addr):(F5 w p fo ch co).lookup ("chosen":Str)=some (.ref ch):=by
 unfold F5
 rw[zF,if_neg (by decide +kernel)]
 unfold F4
 rw[zF,if_pos rfl]
theorem F5_columns (w:Int)(p:Int)(fo:Addr)(ch:Addr)(co:Addr):(F5 w p fo ch co).lookup ("columns":Str)=some (.ref co):=by
 unfold F5
 rw[zF,if_pos rfl]
theorem F7_rows (w:Int)(p:Int)(fo:Addr)(ch:Addr)(co:Addr)(ro:Addr)(md:Int):(F7 w p fo ch co ro md).lookup ("rows":Str)=some (.ref ro):=by
 unfold F7
 rw[zF,if_neg (by decide +kernel)]
 unfold F6
 rw[zF,if_pos rfl]
theorem F7_modulus (w:Int)(p:Int)(fo:Addr)(ch:Addr)(co:Addr)(ro:Addr)(md:Int):(F7 w p fo ch co ro md).lookup ("modulus":Str)=some (.int md):=by
 unfold F7
 rw[zF,if_pos rfl]
theorem F8_size (w:Int)(p:Int)(fo:Addr)(ch:Addr)(co:Addr)(ro:Addr)(md:Int)(un:Addr):(F8 w p fo ch co ro md un).lookup ("size":Str)=some (.int w):=by
 unfold F8
 rw[zF,if_neg (by decide +kernel)]
 unfold F7
 rw[zF,if_neg (by decide +kernel)]
 unfold F6
 rw[zF,if_neg (by decide +kernel)]
 unfold F5
 rw[zF,if_neg (by decide +kernel)]
 unfold F4
 rw[zF,if_neg (by decide +kernel)]
 unfold F3
 rw[zF,if_neg (by decide +kernel)]
 unfold F2
 rw[zF,if_neg (by decide +kernel)]
 unfold F1
 rw[zF,if_pos rfl]
theorem F8_prime (w:Int)(p:Int)(fo:Addr)(ch:Addr)(co:Addr)(ro:Addr)(md:Int)(un:Addr):(F8 w p fo ch co ro md un).lookup ("prime":Str)=some (.int p):=by
 unfold F8
 rw[zF,if_neg (by decide +kernel)]
 unfold F7
 rw[zF,if_neg (by decide +kernel)]
 unfold F6
 rw[zF,if_neg (by decide +kernel)]
 unfold F5
 rw[zF,if_neg (by decide +kernel)]
 unfold F4
 rw[zF,if_neg (by decide +kernel)]
 unfold F3
 rw[zF,if_neg (by decide +kernel)]
 unfold F2
 rw[zF,if_pos rfl]
theorem F8_found (w:Int)(p:Int)(fo:Addr)(ch:Addr)(co:Addr)(ro:Addr)(md:Int)(un:Addr):(F8 w p fo ch co ro md un).lookup ("found":Str)=some (.ref fo):=by
 unfold F8
 rw[zF,if_neg (by decide +kernel)]
 unfold F7
 rw[zF,if_neg (by decide +kernel)]
 unfold F6
 rw[zF,if_neg (by decide +kernel)]
 unfold F5
 rw[zF,if_neg (by decide +kernel)]
 unfold F4
 rw[zF,if_neg (by decide +kernel)]
 unfold F3
 rw[zF,if_pos rfl]
theorem F8_chosen (w:Int)(p:Int)(fo:Addr)(ch:Addr)(co:Addr)(ro:Addr)(md:Int)(un:Addr):(F8 w p fo ch co ro md un).lookup ("chosen":Str)=some (.ref ch):=by
 unfold F8
 rw[zF,if_neg (by decide +kernel)]
 unfold F7
 rw[zF,if_neg (by decide +kernel)]
 unfold F6
 rw[zF,if_neg (by decide +kernel)]
 unfold F5
 rw[zF,if_neg (by decide +kernel)]
 unfold F4
 rw[zF,if_pos rfl]
theorem zGr (w:Int)(p:Int)(fo:Addr)(ch:Addr)(co:Addr)(ro:Addr)(md:Int)(un:Addr):(F8 w p fo ch co ro md un).lookup ("columns":Str)=some (.ref co):=by
 unfold F8
 rw[zF,if_neg (by decide +kernel)]
 unfold F7
 rw[zF,if_neg (by decide +kernel)]
 unfold F6
 rw[zF,if_neg (by decide +kernel)]
 unfold F5
 rw[zF,if_pos rfl]
theorem F8_rows (w:Int)(p:Int)(fo:Addr)(ch:Addr)(co:Addr)(ro:Addr)(md:Int)(un:Addr):(F8 w p fo ch co ro md un).lookup ("rows":Str)=some (.ref ro):=by
 unfold F8
 rw[zF,if_neg (by decide +kernel)]
 unfold F7
 rw[zF,if_neg (by decide +kernel)]
 unfold F6
 rw[zF,if_pos rfl]
theorem zGt (w:Int)(p:Int)(fo:Addr)(ch:Addr)(co:Addr)(ro:Addr)(md:Int)(un:Addr):(F8 w p fo ch co ro md un).lookup ("modulus":Str)=some (.int md):=by
 unfold F8
 rw[zF,if_neg (by decide +kernel)]
 unfold F7
 rw[zF,if_pos rfl]
theorem zGw (w:Int)(p:Int)(fo:Addr)(ch:Addr)(co:Addr)(ro:Addr)(md:Int)(un:Addr):(F8 w p fo ch co ro md un).lookup ("undoing":Str)=some (.ref un):=by
 unfold F8
 rw[zF,if_pos rfl]
theorem F8_missed (w:Int)(p:Int)(fo:Addr)(ch:Addr)(co:Addr)(ro:Addr)(md:Int)(un:Addr):(F8 w p fo ch co ro md un).lookup ("missed":Str)=none:=by
 unfold F8
 rw[zF,if_neg (by decide +kernel)]
 unfold F7
 rw[zF,if_neg (by decide +kernel)]
 unfold F6
 rw[zF,if_neg (by decide +kernel)]
 unfold F5
 rw[zF,if_neg (by decide +kernel)]
 unfold F4
 rw[zF,if_neg (by decide +kernel)]
 unfold F3
 rw[zF,if_neg (by decide +kernel)]
 unfold F2
 rw[zF,if_neg (by decide +kernel)]
 unfold F1
 rw[zF,if_neg (by decide +kernel)]
 rfl
theorem F8_counts (w:Int)(p:Int)(fo:Addr)(ch:Addr)(co:Addr)(ro:Addr)(md:Int)(un:Addr):(F8 w p fo ch co ro md un).lookup ("counts":Str)=none:=by
 unfold F8
 rw[zF,if_neg (by decide +kernel)]
 unfold F7
 rw[zF,if_neg (by decide +kernel)]
 unfold F6
 rw[zF,if_neg (by decide +kernel)]
 unfold F5
 rw[zF,if_neg (by decide +kernel)]
 unfold F4
 rw[zF,if_neg (by decide +kernel)]
 unfold F3
 rw[zF,if_neg (by decide +kernel)]
 unfold F2
 rw[zF,if_neg (by decide +kernel)]
 unfold F1
 rw[zF,if_neg (by decide +kernel)]
 rfl
theorem zHd (w:Int)(p:Int)(fo:Addr)(ch:Addr)(co:Addr)(ro:Addr)(md:Int)(un:Addr):(F8 w p fo ch co ro md un).lookup ("weights":Str)=none:=by
 unfold F8
 rw[zF,if_neg (by decide +kernel)]
 unfold F7
 rw[zF,if_neg (by decide +kernel)]
 unfold F6
 rw[zF,if_neg (by decide +kernel)]
 unfold F5
 rw[zF,if_neg (by decide +kernel)]
 unfold F4
 rw[zF,if_neg (by decide +kernel)]
 unfold F3
 rw[zF,if_neg (by decide +kernel)]
 unfold F2
 rw[zF,if_neg (by decide +kernel)]
 unfold F1
 rw[zF,if_neg (by decide +kernel)]
 rfl
structure FrAt (C:Addr)(H:Hp)(x:Addr)(p:Int)(w:Nat)(steps:List (List Int))(fs:List Rx.Fd)(us:List (List Int)):Prop where
 ex:∃ dx fo ch co ro un,H x=some (.ins C dx (F8 w p fo ch co ro (p^16) un))∧FoAt H fo fs∧H ch=some (.lst ((ni (Rx.numsOf fs)).map V.int))∧H co=some (.lst ((ni (Rx.vE fs)).map V.int))∧wZ H ro (Rx.rowsOf steps fs)∧wZ H un us
theorem FrAt.same {C:Addr}{H H':Hp}(sm:zN H H'){x:Addr}{p:Int}{w:Nat}{steps:List (List Int)}{fs:List Rx.Fd}{us:List (List Int)}(h:FrAt C H x p w steps fs us):FrAt C H' x p w steps fs us:=by
 obtain⟨dx,fo,ch,co,ro,un,a,b,c,d,e,f⟩:=h.ex
 exact⟨dx,fo,ch,co,ro,un,sm _ _ a,b.same sm,sm _ _ c,sm _ _ d,e.same sm,f.same sm⟩
theorem wP {H:Hp}{x b C dx:Addr}{fs:List (Str×V)}{l:List V}{o:HO}(hx:H x=some (.ins C dx fs))(hb:H b=some (.lst l)):upd H x o b=some (.lst l):=(vA (zCf hb hx (by intro z;cases z))).trans hb
theorem zCo {H:Hp}{x C dx:Addr}{fs:List (Str×V)}{o:HO}(hx:H x=some (.ins C dx fs)){r:Addr}{rows:List (List Int)}(h:wZ H r rows):wZ (upd H x o) r rows :=
 let ⟨as,h1,h2⟩:=h;⟨as,wP hx h1,wQ h2 fun _ _ z=>wP hx z⟩
theorem FoAt.upx {H:Hp}{x C dx:Addr}{fl:List (Str×V)}{o:HO}(hx:H x=some (.ins C dx fl)){r:Addr}{fs:List Rx.Fd}(h:FoAt H r fs):FoAt (upd H x o) r fs :=
 let ⟨as,h1,h2⟩:=h;⟨as,wP hx h1,wQ h2 fun _ _ ⟨b,u,v⟩=>⟨b,(vA (zCf u hx (by intro z;cases z))).trans u,wP hx v⟩⟩
def Kx (x:Addr)(H H':Hp):Prop:=∀ b o,H b=some o→b≠x→H' b=some o
theorem Kx.upd {x:Addr}{H H':Hp}(h:Kx x H H')(o:HO):Kx x H (upd H' x o):=fun b u e ne=>by rw[vA ne];exact h b u e ne
theorem Kx.same {x:Addr}{H H' H'':Hp}(h:Kx x H H')(sm:zN H' H''):Kx x H H'':=fun b u e ne=>sm _ _ (h b u e ne)
structure FrO (p:Int)(w N:Nat)(steps:List (List Int))(fs:List Rx.Fd)(us:List (List Int)):Prop where
 crn:Rx.Crn p w steps steps.length fs
 ul:us.length=fs.length
 uw:∀ u∈us,u.length=fs.length∧Bd N u
 li:Mx.LI (p^16) fs.length (Rx.mt us) (Rx.mt (Rx.rowsOf steps fs))
theorem rows_Bd {p:Int}{w N:Nat}{steps:List (List Int)}{fs:List Rx.Fd}(h:Rx.Crn p w steps steps.length fs)(lw:∀ x∈steps,x.length=w∧Bd N x):∀ row∈Rx.rowsOf steps fs,row.length=fs.length∧Bd N row:=fun row hrow=>by
 refine⟨Rx.wG.2 row hrow,fun y hy=>?_⟩
 unfold Rx.rowsOf at hrow
 obtain⟨f,hf,rfl⟩:=List.mem_map.mp hrow
 obtain⟨c,hc,rfl⟩:=List.mem_map.mp hy
 have l:=lw _ (Rx.vZ (rows:=steps) (h.lt f hf))
 exact l.2 _ (Rx.j8 (by rw[l.1];exact Rx.jC h c hc))
def spInit (C:Addr):Sp:=fun vs H Q _=>∃ (x s dx:Addr)(steps:List (List Int))(p:Int)(w N:Nat),vs=[.ref x,.ref s,.int w,.int p]∧H x=some (.ins C dx [])∧wZ H s steps∧(∀ y∈steps,y.length=w∧Bd N y)∧w≤420∧steps.length≤20000∧Pt.Prm p∧p < 2^30∧480≤N∧N≤9000 ∧
 ∀ H' fs us,Kx x H H'→FrAt C H' x p w steps fs us→FrO p w N steps fs us→Q .non H'
theorem ok_Frame_init (T:Txt K mg C_Frame t_LEAD_BITS t_FIRST_PRIME):Kf P w K mg base 6 C_Frame "Frame" ["self","steps","size","prime"] (spInit C_Frame):=by
 have D_corners:=ok_corners (P:=P) (w:=w) (base:=base) T
 have D_picked:=zFh (P:=P) (w:=w) (base:=base) T
 have D_undone_rows:=zFx (P:=P) (w:=w) (base:=base) T
 refine T.m_Frame_init.ok zCp (fun vs H Q E h=>?_) (fun f cdv A outer s H vs Q E hr h=>?_)
 ·obtain⟨_,_,_,_,_,_,_,rfl,_⟩:=h;rfl
 obtain⟨x,s',dx,steps,p,w',N,rfl,hx,hS,lw,w4,ls,hp,p30,N4,N9,q⟩:=h
 have p2:=hp.1
 have nd:=zCp.nd
 have p16:p^16 < 2^N:=by
  have a:=Nat.pow_lt_pow_left (show p.toNat < 2^30 by omega) (show 16≠0 by decide)
  have b:=Nat.pow_le_pow_right (n:=2) (by decide) N4
  have c:((p.toNat^16:Nat):Int)=p^16:=by rw[Int.natCast_pow,show ((p.toNat:Nat):Int)=p by omega]
  have d:(2^30)^16=2^480:=by rw[← Nat.pow_mul]
  rw[d] at a
  have e:=zCt N
  have:=Nat.lt_of_lt_of_le a b
  omega
 refine⟨_,(zB (zDq (pv 0) (pv 2) rfl) (zB (zDq (pv 0) (pv 3) rfl) (zB (zDq (pv 0) (zQ D_corners (hr.mono (by decide)) (by rfl) (zA (pv 1) (zA (pv 3) zC))) rfl) (zB (zDq (pv 0) (zZ (cap:=[]) (tgs:=["number","column","row"])  rfl rfl rfl (by decide +kernel) (by decide +kernel) (vI (by rfl)) vK vH (zEy (by decide) (by decide) (by decide)) (vS (wL (pv 0) rfl)) (fun C s H fp=>⟨(wB rfl (zO (zL (i:=0) (show (["number","column","row"]:List Str).Nodup by decide +kernel) rfl (Or.inl rfl) (Or.inr rfl)) (zO (zL (i:=1) (show (["number","column","row"]:List Str).Nodup by decide +kernel) rfl (Or.inl rfl) (Or.inr rfl)) (zO (zL (i:=2) (show (["number","column","row"]:List Str).Nodup by decide +kernel) rfl (Or.inl rfl) (Or.inr rfl)) vV)))),vJ,(pv 0)⟩)) rfl) (zB (zDq (pv 0) (zZ (cap:=[]) (tgs:=["number","column","row"])  rfl rfl rfl (by decide +kernel) (by decide +kernel) (vI (by rfl)) vK vH (zEy (by decide) (by decide) (by decide)) (vS (wL (pv 0) rfl)) (fun C s H fp=>⟨(wB rfl (zO (zL (i:=0) (show (["number","column","row"]:List Str).Nodup by decide +kernel) rfl (Or.inl rfl) (Or.inr rfl)) (zO (zL (i:=1) (show (["number","column","row"]:List Str).Nodup by decide +kernel) rfl (Or.inl rfl) (Or.inr rfl)) (zO (zL (i:=2) (show (["number","column","row"]:List Str).Nodup by decide +kernel) rfl (Or.inl rfl) (Or.inr rfl)) vV)))),vJ,(pv 1)⟩)) rfl) (zB (zDq (pv 0) (zZ (cap:=[("steps",1),("self",0)]) (tgs:=["number"])  rfl rfl rfl (by decide +kernel) (by decide +kernel) (vI (by rfl)) (zV rfl (zV rfl vK)) (zX ⟨rfl,Or.inl rfl,Or.inl rfl,_,rfl⟩ (zX ⟨rfl,Or.inl rfl,Or.inl rfl,_,rfl⟩ vH)) (vB (by decide)) (vS (wL (pv 0) rfl)) (fun C s H fp=>⟨(zL (i:=2) (show (["steps","self","number"]:List Str).Nodup by decide +kernel) rfl (Or.inl rfl) (Or.inr rfl)),vJ,(zQ D_picked (hr.mono (by decide)) (by rfl) (zA (vC (zBb (K:=K) rfl) (pv 0) (pv 2) (fun _ _=>rfl)) (zA (pe_fldK (K:=K) rfl (pv 1) rfl) zC)))⟩)) rfl) (zB (zDq (pv 0) (zK zGp (pv 3) zE) rfl) (zI (zDq (pv 0) (zQ D_undone_rows (hr.mono (by decide)) (by rfl) (zA (wL (pv 0) rfl) (zA (wL (pv 0) rfl) zC))) rfl))))))))),?_⟩
 -- size,prime
 refine⟨_,rfl,_,rfl,x,C_Frame,dx,[],rfl,hx,T.cl_Frame,T.na_size,(by show 0 < 1000;decide),?_⟩
 have k1:Kx x H (upd H x (.ins C_Frame dx (F1 w'))):=Kx.upd (fun b o e _=>e) _
 have x1:upd H x (.ins C_Frame dx (F1 w')) x=some (.ins C_Frame dx (F1 w')):=zD
 have S1:wZ (upd H x (.ins C_Frame dx (F1 w'))) s' steps:=zCo hx hS
 show _
 have e1:upd H x (.ins C_Frame dx (zBg "size" (.int w') []))=upd H x (.ins C_Frame dx (F1 w')):=rfl
 rw[e1]
 generalize upd H x (.ins C_Frame dx (F1 w'))=H1 at k1 x1 S1 ⊢
 refine⟨_,rfl,_,rfl,x,C_Frame,dx,_,rfl,x1,T.cl_Frame,T.na_prime,Nat.lt_of_le_of_lt (F1_len _) (by decide),?_⟩
 have k2:Kx x H (upd H1 x (.ins C_Frame dx (F2 w' p))):=k1.upd _
 have x2:upd H1 x (.ins C_Frame dx (F2 w' p)) x=some (.ins C_Frame dx (F2 w' p)):=zD
 have S2:wZ (upd H1 x (.ins C_Frame dx (F2 w' p))) s' steps:=zCo x1 S1
 have e2:upd H1 x (.ins C_Frame dx (zBg "prime" (.int p) (F1 w')))=upd H1 x (.ins C_Frame dx (F2 w' p)):=rfl
 rw[e2]
 generalize upd H1 x (.ins C_Frame dx (F2 w' p))=H2 at k2 x2 S2 ⊢
 -- found
 refine⟨_,rfl,_,rfl,s',steps,p,w',N,rfl,S2,fun y hy=>(lw y hy).1,by omega,ls,hp,by have e:=zCt N;have:=Nat.pow_le_pow_right (n:=2) (by decide) (show 30≤N by omega);omega,by omega,N9,fun fo H3 fs sm3 nfo hfo crn=>?_⟩
 have kl:=crn.fr.le_n hp
 have x3:=sm3 _ _ x2
 refine⟨_,rfl,x,C_Frame,dx,_,rfl,x3,T.cl_Frame,T.na_found,Nat.lt_of_le_of_lt (F2_len _ _) (by decide),?_⟩
 have k4:Kx x H (upd H3 x (.ins C_Frame dx (F3 w' p fo))):=(k2.same sm3).upd _
 have x4:upd H3 x (.ins C_Frame dx (F3 w' p fo)) x=some (.ins C_Frame dx (F3 w' p fo)):=zD
 have S4:wZ (upd H3 x (.ins C_Frame dx (F3 w' p fo))) s' steps:=zCo x3 (S2.same sm3)
 have f4:FoAt (upd H3 x (.ins C_Frame dx (F3 w' p fo))) fo fs:=hfo.upx x3
 have e3:upd H3 x (.ins C_Frame dx (zBg "found" (.ref fo) (F2 w' p)))=upd H3 x (.ins C_Frame dx (F3 w' p fo)):=rfl
 rw[e3]
 generalize upd H3 x (.ins C_Frame dx (F3 w' p fo))=H4 at k4 x4 S4 f4 ⊢
 -- chosen
 obtain⟨as,fa,fp⟩:=id f4
 have la:=zP fp
 refine⟨_,rfl,x,C_Frame,dx,_,_,rfl,x4,T.cl_Frame,T.na_found,F3_found _ _ _,fo,rfl,⟨_,SqL.of fa⟩,?_⟩
 refine v3 (K:=K) (xs:=as.map V.ref) (ni (Rx.numsOf fs)) (by rw[List.length_map,List.length_map];unfold Rx.numsOf;rw[List.length_map,la]) (by rw[List.length_map];omega) (SqL.of fa) ?_ ?_
 ·intro i y H5 hy sm5 R kk
  obtain⟨a,rfl,ha⟩:=zFa hy
  obtain⟨f,hf,b,ht,hb⟩:=v9 fp ha
  exact⟨a,_,rfl,SqT.of (sm5 _ _ ht),rfl,_,_,rfl,_,_,rfl,_,_,rfl,rfl,_,rfl,kk _ _ (zN.refl _) (by unfold Rx.numsOf;rw[List.getElem?_map,List.getElem?_map,hf];rfl)⟩
 intro ch H5 sm5 _ hch
 have x5:=sm5 _ _ x4
 refine⟨_,rfl,x,C_Frame,dx,_,rfl,x5,T.cl_Frame,T.na_chosen,Nat.lt_of_le_of_lt (F3_len _ _ _) (by decide),?_⟩
 have k6:Kx x H (upd H5 x (.ins C_Frame dx (F4 w' p fo ch))):=(k4.same sm5).upd _
 have x6:upd H5 x (.ins C_Frame dx (F4 w' p fo ch)) x=some (.ins C_Frame dx (F4 w' p fo ch)):=zD
 have S6:wZ (upd H5 x (.ins C_Frame dx (F4 w' p fo ch))) s' steps:=zCo x5 (S4.same sm5)
 have f6:FoAt (upd H5 x (.ins C_Frame dx (F4 w' p fo ch))) fo fs:=(f4.same sm5).upx x5
 have c6:upd H5 x (.ins C_Frame dx (F4 w' p fo ch)) ch=some (.lst ((ni (Rx.numsOf fs)).map V.int)):=wP x5 hch
 have e4:upd H5 x (.ins C_Frame dx (zBg "chosen" (.ref ch) (F3 w' p fo)))=upd H5 x (.ins C_Frame dx (F4 w' p fo ch)):=rfl
 rw[e4]
 generalize upd H5 x (.ins C_Frame dx (F4 w' p fo ch))=H6 at k6 x6 S6 f6 c6 ⊢
 -- columns
 obtain⟨as,fa,fp⟩:=id f6
 have la:=zP fp
 refine⟨_,rfl,x,C_Frame,dx,_,_,rfl,x6,T.cl_Frame,T.na_found,F4_found _ _ _ _,fo,rfl,⟨_,SqL.of fa⟩,?_⟩
 refine v3 (K:=K) (xs:=as.map V.ref) (ni (Rx.vE fs)) (by rw[List.length_map,List.length_map];unfold Rx.vE;rw[List.length_map,la]) (by rw[List.length_map];omega) (SqL.of fa) ?_ ?_
 ·intro i y H7 hy sm7 R kk
  obtain⟨a,rfl,ha⟩:=zFa hy
  obtain⟨f,hf,b,ht,hb⟩:=v9 fp ha
  exact⟨a,_,rfl,SqT.of (sm7 _ _ ht),rfl,_,_,rfl,_,_,rfl,_,_,rfl,rfl,_,rfl,kk _ _ (zN.refl _) (by unfold Rx.vE;rw[List.getElem?_map,List.getElem?_map,hf];rfl)⟩
 intro co H7 sm7 _ hco
 have x7:=sm7 _ _ x6
 refine⟨_,rfl,x,C_Frame,dx,_,rfl,x7,T.cl_Frame,T.na_columns,Nat.lt_of_le_of_lt (F4_len _ _ _ _) (by decide),?_⟩
 have k8:Kx x H (upd H7 x (.ins C_Frame dx (F5 w' p fo ch co))):=(k6.same sm7).upd _
 have x8:upd H7 x (.ins C_Frame dx (F5 w' p fo ch co)) x=some (.ins C_Frame dx (F5 w' p fo ch co)):=zD
 have S8:wZ (upd H7 x (.ins C_Frame dx (F5 w' p fo ch co))) s' steps:=zCo x7 (S6.same sm7)
 have f8:FoAt (upd H7 x (.ins C_Frame dx (F5 w' p fo ch co))) fo fs:=(f6.same sm7).upx x7
 have c8:upd H7 x (.ins C_Frame dx (F5 w' p fo ch co)) ch=some (.lst ((ni (Rx.numsOf fs)).map V.int)):=wP x7 (sm7 _ _ c6)
 have o8:upd H7 x (.ins C_Frame dx (F5 w' p fo ch co)) co=some (.lst ((ni (Rx.vE fs)).map V.int)):=wP x7 hco
 have e5:upd H7 x (.ins C_Frame dx (zBg "columns" (.ref co) (F4 w' p fo ch)))=upd H7 x (.ins C_Frame dx (F5 w' p fo ch co)):=rfl
 rw[e5]
 generalize upd H7 x (.ins C_Frame dx (F5 w' p fo ch co))=H8 at k8 x8 S8 f8 c8 o8 ⊢
 -- rows
 obtain⟨ss,sa,sp⟩:=id S8
 have lss:=zP sp
 have lnf:(Rx.numsOf fs).length=fs.length:=by unfold Rx.numsOf;rw[List.length_map]
 refine⟨_,rfl,x,C_Frame,dx,_,_,rfl,x8,T.cl_Frame,T.na_chosen,F5_chosen _ _ _ _ _,ch,rfl,⟨_,SqL.of c8⟩,?_⟩
 refine zCm (K:=K) (xs:=(ni (Rx.numsOf fs)).map V.int) (Rx.rowsOf steps fs) (by rw[Rx.wG.1,List.length_map,List.length_map,lnf]) (by rw[List.length_map,List.length_map,lnf];omega) (SqL.of c8) ?_ ?_
 ·intro i y H9 hy sm9 R kk
  obtain⟨n,rfl,hn⟩:=ni_at hy
  have il:i < fs.length:=by rw[← lnf];exact (List.getElem?_eq_some_iff.mp hn).1
  obtain⟨f,hf⟩:∃ f,fs[i]?=some f:=⟨_,List.getElem?_eq_getElem il⟩
  have en:n=f.1:=by
   unfold Rx.numsOf at hn
   rw[List.getElem?_map,hf] at hn
   exact (Option.some.inj hn).symm
  subst en
  have fl:=crn.lt f (List.mem_of_getElem? hf)
  obtain⟨a,hat,ha⟩:=at_row sp (Rx.wD fl)
  have ll:=lw _ (Rx.vZ (rows:=steps) fl)
  refine⟨_,rfl,_,rfl,s',_,_,_,rfl,rfl,SqL.of (sm9 _ _ sa),hat,_,rfl,x,C_Frame,dx,_,_,rfl,sm9 _ _ x8,T.cl_Frame,T.na_columns,F5_columns _ _ _ _ _,a,co,_,Rx.vE fs,rfl,SqL.of (sm9 _ _ ha),sm9 _ _ o8,fun c hc=>by rw[List.length_map,ll.1];exact Rx.jC crn c hc,by unfold Rx.vE;rw[List.length_map];omega,fun t H10 sm10 _ h10=>?_⟩
  rw[pk_int _ _ fun c hc=>by rw[ll.1];exact Rx.jC crn c hc] at h10
  exact kk H10 t _ sm10 (by unfold Rx.rowsOf;rw[List.getElem?_map,hf];rfl) h10
 intro ro H9 sm9 _ hro
 have x9:=sm9 _ _ x8
 refine⟨_,rfl,x,C_Frame,dx,_,rfl,x9,T.cl_Frame,T.na_rows,Nat.lt_of_le_of_lt (F5_len _ _ _ _ _) (by decide),?_⟩
 have k10:Kx x H (upd H9 x (.ins C_Frame dx (F6 w' p fo ch co ro))):=(k8.same sm9).upd _
 have x10:upd H9 x (.ins C_Frame dx (F6 w' p fo ch co ro)) x=some (.ins C_Frame dx (F6 w' p fo ch co ro)):=zD
 have f10:FoAt (upd H9 x (.ins C_Frame dx (F6 w' p fo ch co ro))) fo fs:=(f8.same sm9).upx x9
 have c10:upd H9 x (.ins C_Frame dx (F6 w' p fo ch co ro)) ch=some (.lst ((ni (Rx.numsOf fs)).map V.int)):=wP x9 (sm9 _ _ c8)
 have o10:upd H9 x (.ins C_Frame dx (F6 w' p fo ch co ro)) co=some (.lst ((ni (Rx.vE fs)).map V.int)):=wP x9 (sm9 _ _ o8)
 have r10:wZ (upd H9 x (.ins C_Frame dx (F6 w' p fo ch co ro))) ro (Rx.rowsOf steps fs):=zCo x9 hro
 have e6:upd H9 x (.ins C_Frame dx (zBg "rows" (.ref ro) (F5 w' p fo ch co)))=upd H9 x (.ins C_Frame dx (F6 w' p fo ch co ro)):=rfl
 rw[e6]
 generalize upd H9 x (.ins C_Frame dx (F6 w' p fo ch co ro))=H10 at k10 x10 f10 c10 o10 r10 ⊢
 -- modulus
 refine⟨_,rfl,_,_,rfl,rfl,⟨by decide,by decide,by omega⟩,_,rfl,x,C_Frame,dx,_,rfl,x10,T.cl_Frame,T.na_modulus,Nat.lt_of_le_of_lt (F6_len _ _ _ _ _ _) (by decide),?_⟩
 have k11:Kx x H (upd H10 x (.ins C_Frame dx (F7 w' p fo ch co ro (p^16)))):=k10.upd _
 have x11:upd H10 x (.ins C_Frame dx (F7 w' p fo ch co ro (p^16))) x=some (.ins C_Frame dx (F7 w' p fo ch co ro (p^16))):=zD
 have f11:FoAt (upd H10 x (.ins C_Frame dx (F7 w' p fo ch co ro (p^16)))) fo fs:=f10.upx x10
 have c11:upd H10 x (.ins C_Frame dx (F7 w' p fo ch co ro (p^16))) ch=some (.lst ((ni (Rx.numsOf fs)).map V.int)):=wP x10 c10
 have o11:upd H10 x (.ins C_Frame dx (F7 w' p fo ch co ro (p^16))) co=some (.lst ((ni (Rx.vE fs)).map V.int)):=wP x10 o10
 have r11:wZ (upd H10 x (.ins C_Frame dx (F7 w' p fo ch co ro (p^16)))) ro (Rx.rowsOf steps fs):=zCo x10 r10
 have e7:upd H10 x (.ins C_Frame dx (zBg "modulus" ((fun (i j:Int)=>V.int (i^j.toNat)) p 16) (F6 w' p fo ch co ro)))=upd H10 x (.ins C_Frame dx (F7 w' p fo ch co ro (p^16))):=rfl
 rw[e7]
 generalize upd H10 x (.ins C_Frame dx (F7 w' p fo ch co ro (p^16)))=H11 at k11 x11 f11 c11 o11 r11 ⊢
 -- undoing
 refine⟨_,rfl,x,C_Frame,dx,_,_,rfl,x11,T.cl_Frame,T.na_rows,F7_rows _ _ _ _ _ _ _,_,rfl,x,C_Frame,dx,_,_,rfl,x11,T.cl_Frame,T.na_modulus,F7_modulus _ _ _ _ _ _ _,ro,Rx.rowsOf steps fs,fs.length,16,N,p,rfl,r11,Rx.wG.1,rows_Bd crn lw,by omega,by decide,hp,p16,by omega,N9,fun c hc=>crn.ind c hc,fun un H12 us sm12 _ hun ul uw li=>?_⟩
 have x12:=sm12 _ _ x11
 refine⟨_,rfl,x,C_Frame,dx,_,rfl,x12,T.cl_Frame,T.na_undoing,Nat.lt_of_le_of_lt (F7_len _ _ _ _ _ _ _) (by decide),?_⟩
 refine q _ fs us ((k11.same sm12).upd _) ⟨dx,fo,ch,co,ro,un,zD,(f11.same sm12).upx x12,wP x12 (sm12 _ _ c11),wP x12 (sm12 _ _ o11),zCo x12 (r11.same sm12),zCo x12 hun⟩ ⟨crn,ul,uw,li⟩
structure Nb (p:Int)(k D C G B N:Nat):Prop where
 DB:D≤B
 big:k*(D*(Sg.bnd k C*G))≤B
 B1:1≤B
 lim:128*((B:Int)*B)*(128*((B:Int)*B))*p^16≤2^N
 GN:G < 2^N
 N1:480≤N
 N2:N≤9000
theorem flp_Bd {N k:Nat}{rows:List (List Int)}(lr:rows.length=k)(lw:∀ row∈rows,row.length=k∧Bd N row):∀ row∈Rx.flp k rows,row.length=k∧Bd N row:=fun row h=>by
 refine⟨(Rx.flp_len lr).2 row h,fun x hx=>?_⟩
 unfold Rx.flp at h
 obtain⟨c,hc,rfl⟩:=List.mem_map.mp h
 obtain⟨y,hy,rfl⟩:=List.mem_map.mp hx
 exact (lw y hy).2 _ (Rx.j8 (by rw[(lw y hy).1];exact List.mem_range.mp hc))
def spMiss (C:Addr):Sp:=fun vs H Q _=>∃ (x s:Addr)(steps:List (List Int))(fs:List Rx.Fd)(us:List (List Int))(goal:List Int)(p:Int)(w N:Nat),vs=[.ref x,.ref s]∧FrAt C H x p w steps fs us∧FrO p w N steps fs us∧Pt.Prm p∧p < 2^30∧480≤N∧N≤9000∧w≤420∧H s=some (.lst (goal.map V.int))∧goal.length=w ∧
 (∀ (c:Nat) H',zN H H'→c < w→Lt.g (Rx.clr p fs goal) c≠0→Q (.int c) H')∧∀ H',zN H H'→(∀ c,c < w→Lt.g (Rx.clr p fs goal) c=0)→Q .non H'
theorem zFj (T:Txt K mg C_Frame t_LEAD_BITS t_FIRST_PRIME):Mf P w K mg base 3 C_Frame "missed" ["self","goal"] (spMiss C_Frame):=by
 have D_cleared:=zGg (P:=P) (w:=w) (base:=base) T
 have D_first_filled:=zAp (P:=P) (w:=w) (base:=base) T
 refine T.m_Frame_missed.ok zAw (fun vs H Q E h=>?_) (fun f cdv A outer s H vs Q E hr h=>?_)
 ·obtain⟨_,_,_,_,_,_,_,_,_,rfl,_⟩:=h;rfl
 obtain⟨x,s',steps,fs,us,goal,p,w',N,rfl,fa,fo,hp,p30,N4,N9,w4,hg,lg,q1,q2⟩:=h
 obtain⟨dx,ff,ch,co,ro,un,hx,hf,_⟩:=fa.ex
 have p2:=hp.1
 have nd:=zAw.nd
 refine⟨_,(zI (zU (zQ D_first_filled (hr.mono (by decide)) (by rfl) (zA (zQ D_cleared (hr.mono (by decide)) (by rfl) (zA (pv 1) (zA (wL (pv 0) rfl) (zA (wL (pv 0) rfl) zC)))) zC)))),?_⟩
 refine⟨_,rfl,_,rfl,x,C_Frame,dx,_,_,rfl,hx,T.cl_Frame,T.na_found,F8_found _ _ _ _ _ _ _ _,_,rfl,x,C_Frame,dx,_,_,rfl,hx,T.cl_Frame,T.na_prime,F8_prime _ _ _ _ _ _ _ _,s',ff,goal,fs,p,w',30,rfl,hg,hf,fo.crn.rok,lg,by omega,by omega,p30,by decide,fun t H1 sm1 h1=>?_⟩
 have ok:=Rx.zEo (show 0 < p by omega) lg rfl fo.crn.rok
 refine⟨t,_,rfl,h1,by omega,fun c H2 sm2 hc nz=>q1 c H2 (sm1.trans sm2) (by omega) nz,fun H2 sm2 z=>q2 H2 (sm1.trans sm2) fun c hc=>z c (by omega)⟩
def spCnt (C:Addr):Sp:=fun vs H Q _=>∃ (x s:Addr)(steps:List (List Int))(fs:List Rx.Fd)(us:List (List Int))(goal:List Int)(p:Int)(w N D Cc G B:Nat),vs=[.ref x,.ref s]∧FrAt C H x p w steps fs us∧FrO p w N steps fs us∧Rx.Frm p w steps fs us D Cc∧Nb p fs.length D Cc G B N∧(∀ y∈steps,y.length=w∧Bd N y)∧w≤420∧1000≤p∧H s=some (.lst (goal.map V.int))∧goal.length=w∧(∀ c,c < w→(Lt.g goal c).natAbs≤G) ∧
 ∀ t tt H' tops b,zN H H'→H' t=some (.tup [.ref tt,.int b])→H' tt=some (.lst (tops.map V.int))→tops.length=fs.length→1≤b→b∣(D:Int)→b < 2^N→Bd N tops→(∀ i:Nat,i < fs.length→(Ld.S fs.length fun t=>Rx.st steps (Rx.nm fs t.toNat) (Rx.cl fs i)*Rx.fn tops t)=b*Lt.g goal (Rx.cl fs i))→Q (.ref t) H'
theorem m64 {p:Int}(p2:1000≤p):64≤p^16:=by
 rw[Int.pow_succ]
 have:1≤p^15:=Int.pow_pos (by omega)
 have:=Int.mul_le_mul_of_nonneg_right this (show 0≤p by omega)
 omega
theorem zAn (T:Txt K mg C_Frame t_LEAD_BITS t_FIRST_PRIME):Mf P w K mg base 7 C_Frame "counts" ["self","goal"] (spCnt C_Frame):=by
 have D_flipped:=ok_flipped (P:=P) (w:=w) (base:=base) T
 have D_picked:=zFh (P:=P) (w:=w) (base:=base) T
 have D_solved:=ok_solved (P:=P) (w:=w) (base:=base) T
 refine T.m_Frame_counts.ok zAv (fun vs H Q E h=>?_) (fun f cdv A outer s H vs Q E hr h=>?_)
 ·obtain⟨_,_,_,_,_,_,_,_,_,_,_,_,_,rfl,_⟩:=h;rfl
 obtain⟨x,s',steps,fs,us,goal,p,w',N,D,Cc,G,B,rfl,fa,fo,fm,nb,lw,w4,p1000,hg,lg,gb,q⟩:=h
 obtain⟨dx,ff,ch,co,ro,un,hx,hf,hch,hco,hro,hun⟩:=fa.ex
 have nd:=zAv.nd
 have kl:=fo.crn.fr.le_n fm.hp
 have rb:=rows_Bd fo.crn lw
 have N1:=nb.N1
 have N2:=nb.N2
 refine⟨_,(zI (zU (zQ D_solved (hr.mono (by decide)) (by rfl) (zA (zQ D_flipped (hr.mono (by decide)) (by rfl) (zA (wL (pv 0) rfl) zC)) (zA (zQ D_flipped (hr.mono (by decide)) (by rfl) (zA (wL (pv 0) rfl) zC)) (zA (wL (pv 0) rfl) (zA (zQ D_picked (hr.mono (by decide)) (by rfl) (zA (pv 1) (zA (wL (pv 0) rfl) zC))) zC))))))),?_⟩
 refine⟨_,rfl,x,C_Frame,dx,_,_,rfl,hx,T.cl_Frame,T.na_rows,F8_rows _ _ _ _ _ _ _ _,ro,Rx.rowsOf steps fs,fs.length,rfl,hro,Rx.wG.1,Rx.wG.2,by omega,fun r1 H1 sm1 _ h1=>?_⟩
 refine⟨_,rfl,x,C_Frame,dx,_,_,rfl,sm1 _ _ hx,T.cl_Frame,T.na_undoing,zGw _ _ _ _ _ _ _ _,un,us,fs.length,rfl,hun.same sm1,fo.ul,fun u hu=>(fo.uw u hu).1,by omega,fun u1 H2 sm2 _ h2=>?_⟩
 have sm12:=sm1.trans sm2
 refine⟨_,rfl,x,C_Frame,dx,_,_,rfl,sm12 _ _ hx,T.cl_Frame,T.na_modulus,zGt _ _ _ _ _ _ _ _,_,rfl,_,rfl,x,C_Frame,dx,_,_,rfl,sm12 _ _ hx,T.cl_Frame,T.na_columns,zGr _ _ _ _ _ _ _ _,s',co,_,Rx.vE fs,rfl,SqL.of (sm12 _ _ hg),sm12 _ _ hco,fun c hc=>by rw[List.length_map,lg];exact Rx.jC fo.crn c hc,by unfold Rx.vE;rw[List.length_map];omega,fun g1 H3 sm3 _ h3=>?_⟩
 rw[pk_int _ _ fun c hc=>by rw[lg];exact Rx.jC fo.crn c hc] at h3
 have lc:(Rx.vE fs).length=fs.length:=by unfold Rx.vE;rw[List.length_map]
 have gat:∀ i:Nat,i < fs.length→Rx.fn ((Rx.vE fs).map fun c=>Lt.g goal c) i=Lt.g goal (Rx.cl fs i):=fun i hi=>by
  unfold Rx.fn
  rw[Int.toNat_natCast]
  exact Rx.wH (by rw[List.getElem?_map,Rx.cols_at hi];rfl)
 have gB:∀ i:Nat,i < fs.length→(Rx.fn ((Rx.vE fs).map fun c=>Lt.g goal c) i).natAbs≤G:=fun i hi=>by
  rw[gat i hi];exact gb _ (fo.crn.cor.colw i hi)
 have fl:=Rx.flp_len (k:=fs.length) (rows:=Rx.rowsOf steps fs) Rx.wG.1
 have fu:=Rx.flp_len (k:=fs.length) (rows:=us) fo.ul
 refine⟨r1,u1,g1,Rx.flp fs.length (Rx.rowsOf steps fs),Rx.flp fs.length us,_,fs.length,16,N,D,B,p,rfl,h1.same (sm2.trans sm3),h2.same sm3,h3,fl.1,flp_Bd Rx.wG.1 rb,fu.1,flp_Bd fo.ul fo.uw,by rw[List.length_map,lc],fun y hy=>?_,by omega,by omega,N2,m64 p1000,fm.sc1 gB nb.DB nb.big,fm.ri1,nb.B1,nb.lim,fun t tt H4 tops b sm4 ht htt lt b1 bD bN bt sol=>?_⟩
 ·obtain⟨c,hc,rfl⟩:=List.mem_map.mp hy
  have:=gb c (Rx.jC fo.crn c hc)
  have:=nb.GN
  omega
 ·refine q t tt H4 tops b ((sm12.trans sm3).trans sm4) ht htt lt b1 bD bN bt fun i hi=>?_
  rw[← gat i hi,← sol i hi]
  refine Ld.zH fun j hj=>?_
  rw[Rx.zGx Rx.wG.1 hi hj,Rx.zFf hj hi,Int.toNat_natCast]
def spWts (C:Addr):Sp:=fun vs H Q _=>∃ (x s:Addr)(steps:List (List Int))(fs:List Rx.Fd)(us:List (List Int))(am:List Int)(p:Int)(w N D Cc G B:Nat),vs=[.ref x,.ref s]∧FrAt C H x p w steps fs us∧FrO p w N steps fs us∧Rx.Frm p w steps fs us D Cc∧Nb p fs.length D Cc G B N∧(∀ y∈steps,y.length=w∧Bd N y)∧w≤420∧1000≤p∧H s=some (.lst (am.map V.int))∧am.length=fs.length∧(∀ c,c < fs.length→(Lt.g am c).natAbs≤G) ∧
 ∀ t tt H' tops b,zN H H'→H' t=some (.tup [.ref tt,.int b])→H' tt=some (.lst ((Rx.spr w (Rx.vE fs) tops).map V.int))→H tt=none→tops.length=fs.length→1≤b→b∣(D:Int)→b < 2^N→Bd N tops→(∀ i:Nat,i < fs.length→(Ld.S fs.length fun t=>Rx.st steps (Rx.nm fs i) (Rx.cl fs t.toNat)*Rx.fn tops t)=b*Lt.g am i)→Q (.ref t) H'
theorem zAl (T:Txt K mg C_Frame t_LEAD_BITS t_FIRST_PRIME):Mf P w K mg base 7 C_Frame "weights" ["self","amounts"] (spWts C_Frame):=by
 have D_spread:=ok_spread (P:=P) (w:=w) (base:=base) T
 have D_solved:=ok_solved (P:=P) (w:=w) (base:=base) T
 refine T.m_Frame_weights.ok zAj (fun vs H Q E h=>?_) (fun f cdv A outer s H vs Q E hr h=>?_)
 ·obtain⟨_,_,_,_,_,_,_,_,_,_,_,_,_,rfl,_⟩:=h;rfl
 obtain⟨x,s',steps,fs,us,am,p,w',N,D,Cc,G,B,rfl,fa,fo,fm,nb,lw,w4,p1000,hg,lg,gb,q⟩:=h
 obtain⟨dx,ff,ch,co,ro,un,hx,hf,hch,hco,hro,hun⟩:=fa.ex
 have nd:=zAj.nd
 have kl:=fo.crn.fr.le_n fm.hp
 have rb:=rows_Bd fo.crn lw
 have N1:=nb.N1
 have N2:=nb.N2
 have GN:=nb.GN
 have lc:(Rx.vE fs).length=fs.length:=by unfold Rx.vE;rw[List.length_map]
 have gB:∀ i:Nat,i < fs.length→(Rx.fn am i).natAbs≤G:=fun i hi=>by
  unfold Rx.fn
  rw[Int.toNat_natCast];exact gb i hi
 refine⟨_,(zB (zM (i:=2) nd rfl (Or.inl rfl) (zQ D_solved (hr.mono (by decide)) (by rfl) (zA (wL (pv 0) rfl) (zA (wL (pv 0) rfl) (zA (wL (pv 0) rfl) (zA (pv 1) zC)))))) (zI (zU (wE (zA (zQ D_spread (hr.mono (by decide)) (by rfl) (zA (wL (pv 0) rfl) (zA (wL (pv 0) rfl) (zA (vC vD (pv 2) zE (fun _ _=>rfl)) zC)))) (zA (vC vD (pv 2) zE (fun _ _=>rfl)) zC)))))),?_⟩
 refine⟨_,rfl,x,C_Frame,dx,_,_,rfl,hx,T.cl_Frame,T.na_rows,F8_rows _ _ _ _ _ _ _ _,_,rfl,x,C_Frame,dx,_,_,rfl,hx,T.cl_Frame,T.na_undoing,zGw _ _ _ _ _ _ _ _,_,rfl,x,C_Frame,dx,_,_,rfl,hx,T.cl_Frame,T.na_modulus,zGt _ _ _ _ _ _ _ _,_,rfl,ro,un,s',Rx.rowsOf steps fs,us,am,fs.length,16,N,D,B,p,rfl,hro,hun,hg,Rx.wG.1,rb,fo.ul,fo.uw,lg,fun y hy=>?_,by omega,by omega,N2,m64 p1000,fm.sc2 gB nb.DB nb.big,fm.ri2,nb.B1,nb.lim,fun t tt H1 tops b sm1 ht htt lt b1 bD bN bt sol=>?_⟩
 ·obtain⟨c,hc,rfl⟩:=Rx.zGa hy
  have:=gb c (by omega)
  omega
 have i0:atI [V.ref tt,V.int b] 0=some (.ref tt):=rfl
 have i1:atI [V.ref tt,V.int b] 1=some (.int b):=rfl
 refine⟨_,rfl,x,C_Frame,dx,_,_,rfl,sm1 _ _ hx,T.cl_Frame,T.na_size,F8_size _ _ _ _ _ _ _ _,_,rfl,x,C_Frame,dx,_,_,rfl,sm1 _ _ hx,T.cl_Frame,T.na_columns,zGr _ _ _ _ _ _ _ _,_,rfl,t,_,_,_,rfl,rfl,SqT.of ht,i0,w',co,tt,Rx.vE fs,tops,rfl,sm1 _ _ hco,htt,by rw[lc,lt],Rx.jC fo.crn,by omega,fun sp H2 sm2 nsp h2=>?_⟩
 refine⟨_,rfl,t,_,_,_,rfl,rfl,SqT.of (sm2 _ _ ht),i1,(by show 2≤sizeLine;decide),fun rt hrt=>?_⟩
 refine q rt sp _ tops b (zG (sm1.trans sm2) hrt) zD (zG (zN.refl _) hrt _ _ h2) (sm1.free nsp) lt b1 bD bN bt fun i hi=>?_
 have:=sol i hi
 unfold Rx.fn at this
 rw[Int.toNat_natCast] at this
 rw[← this]
 refine Ld.zH fun j hj=>?_
 rw[Rx.zFf hi hj,Int.toNat_natCast];rfl
def spDiv:Sp:=fun vs H Q _=>∃ a b:Int,vs=[.int a,.int b]∧Q (.int (Eh.G a b)) H
theorem ok_divisor (T:Txt K mg C_Frame t_LEAD_BITS t_FIRST_PRIME):Df P w K mg base 1 "divisor" ["one","other"] spDiv:=by
 refine T.d_divisor.ok zGn (fun vs H Q E h=>?_) (fun f cdv A outer s H vs Q E hr h=>?_)
 ·obtain⟨_,_,rfl,_⟩:=h;rfl
 obtain⟨a,b,rfl,q⟩:=h
 have nd:=zGn.nd
 refine⟨_,(zB (zM (i:=2) nd rfl (Or.inl rfl) (zT zAf (by rfl) T.b_abs L2.zEj (zA (pv 0) zC))) (zB (zM (i:=3) nd rfl (Or.inl rfl) (zT zAf (by rfl) T.b_abs L2.zEj (zA (pv 1) zC))) (zB (w5 PassesOwn.never (vF zGc (pv 3) zE (vM _)) (zB (zM (i:=4) nd rfl (Or.inl rfl) (zK vR (pv 2) (pv 3))) (zB (zM (i:=2) nd rfl (Or.inl rfl) (pv 3)) (zI (zM (i:=3) nd rfl (Or.inl rfl) (pv 4)))))) (zI (zU (pv 2)))))),?_⟩
 refine⟨_,rfl,_,rfl,?_⟩
 refine⟨_,rfl,_,rfl,?_⟩
 have st:=Eh.start a b
 refine⟨fun m σ H'=>H'=H∧∃ (g s:Int)(lv:Option V),σ=[some (.int a),some (.int b),some (.int g),some (.int s),lv]∧0≤g∧0≤s∧Eh.G g s=Eh.G a b∧m=s.toNat,
  ⟨_,rfl,Eh.ab a,Eh.ab b,none,rfl,st.1,st.2.1,st.2.2,rfl⟩,?_⟩
 rintro m σ H' ⟨rfl,g,s,lv,rfl,g0,s0,e,rfl⟩
 refine⟨_,rfl,rfl,_,rfl,?_⟩
 refine zCs (fun c=>?_) (fun c=>?_)
 ·have ne:=vne c
  have t:=Eh.turnE g0 s0 e ne
  refine⟨_,fun _ _ h=>h,?_⟩
  refine⟨_,rfl,_,rfl,_,_,rfl,rfl,(show 0 < s by omega),?_⟩
  refine⟨_,rfl,?_⟩
  refine⟨_,rfl,?_⟩
  exact⟨(g%s).toNat,t.2.2,rfl,_,_,_,rfl,s0,t.1,t.2.1,rfl⟩
 ·have z:=nvne c
  refine⟨_,rfl,?_⟩
  rw[Eh.out g0 e z]
  exact q
def spJoint:Sp:=fun vs H Q _=>∃ (a b:Int)(N:Nat),vs=[.int a,.int b]∧1≤a∧1≤b∧a < 2^N∧b < 2^N∧N≤9000∧∀ j:Int,1≤j→a∣j→b∣j→(∀ D:Int,a∣D→b∣D→j∣D)→Q (.int j) H
theorem ok_joint (T:Txt K mg C_Frame t_LEAD_BITS t_FIRST_PRIME):Df P w K mg base 2 "joint" ["one","other"] spJoint:=by
 have D_divisor:=ok_divisor (P:=P) (w:=w) (base:=base) T
 refine T.d_joint.ok sc_joint (fun vs H Q E h=>?_) (fun f cdv A outer s H vs Q E hr h=>?_)
 ·obtain⟨_,_,_,rfl,_⟩:=h;rfl
 obtain⟨a,b,N,rfl,a1,b1,aN,bN,N2,q⟩:=h
 have nd:=sc_joint.nd
 have eN:=zCt N
 obtain⟨G1,Ga,j1,d1,d2,al⟩:=Rx.lcm_ok a1 b1 (G:=Eh.G a b) rfl
 have q0:=Int.ediv_nonneg (show 0≤a by omega) (show 0≤Eh.G a b by omega)
 have q1:=Int.ediv_le_self (Eh.G a b) (show 0≤a by omega)
 refine⟨_,(zI (zU (zK vG (zK vO (pv 0) (zQ D_divisor (hr.mono (by decide)) (by rfl) (zA (pv 0) (zA (pv 1) zC)))) (pv 1)))),?_⟩
 refine⟨_,rfl,_,rfl,_,rfl,_,_,rfl,_,_,rfl,rfl,div9 (by omega) (show (Eh.G a b).natAbs < 2^N by omega) N2,_,rfl,_,_,rfl,rfl,mulN (N:=N) (M:=N) (by omega) (by omega) (by omega) (by omega),?_⟩
 exact q _ j1 d1 d2 al
def spMix:Sp:=fun vs H Q _=>∃ (r s:Addr)(one other:List Int)(a b m:Int)(N:Nat),vs=[.ref r,.int a,.ref s,.int b,.int m]∧H r=some (.lst (one.map V.int))∧H s=some (.lst (other.map V.int))∧one.length=other.length∧one.length≤20000∧0 < m∧a.natAbs < 2^N∧b.natAbs < 2^N∧Bd N one∧Bd N other∧N≤1000000 ∧
 ∀ t H',zN H H'→H t=none→H' t=some (.lst ((Lt.mix one a other b m).map V.int))→Q (.ref t) H'
theorem ok_mixed (T:Txt K mg C_Frame t_LEAD_BITS t_FIRST_PRIME):Df P w K mg base 1 "mixed" ["one","many","other","more","modulus"] spMix:=by
 refine T.d_mixed.ok sc_mixed (fun vs H Q E h=>?_) (fun f cdv A outer s H vs Q E hr h=>?_)
 ·obtain⟨_,_,_,_,_,_,_,_,rfl,_⟩:=h;rfl
 obtain⟨r,s',one,other,a,b,m,N,rfl,h1,h2,l,lz,m0,aN,bN,b1,b2,N1,q⟩:=h
 have nd:=sc_mixed.nd
 refine⟨_,(zI (zU (zZ (cap:=[("modulus",4),("many",1),("more",3)]) (tgs:=["number","beyond"])  rfl rfl rfl (by decide +kernel) (by decide +kernel) (vI (by rfl)) (zV rfl (zV rfl (zV rfl vK))) (zX ⟨rfl,Or.inl rfl,Or.inl rfl,_,rfl⟩ (zX ⟨rfl,Or.inl rfl,Or.inl rfl,_,rfl⟩ (zX ⟨rfl,Or.inl rfl,Or.inl rfl,_,rfl⟩ vH))) (v5 (by decide) (by decide)) (zBl (by rfl) T.b_zip (zA (pv 0) (zA (pv 2) zC))) (fun C s H fp=>⟨(wB rfl (zO (zL (i:=3) (show (["modulus","many","more","number","beyond"]:List Str).Nodup by decide +kernel) rfl (Or.inl rfl) (Or.inr rfl)) (zO (zL (i:=4) (show (["modulus","many","more","number","beyond"]:List Str).Nodup by decide +kernel) rfl (Or.inl rfl) (Or.inr rfl)) vV))),vJ,(zK vR (zK vU (zK vG (pv 3) (pv 1)) (zK vG (pv 4) (pv 2))) (pv 0))⟩)))),?_⟩
 refine⟨_,rfl,_,rfl,r,s',rfl,⟨_,SqL.of h1⟩,⟨_,SqL.of h2⟩,?_⟩
 refine zBd (K:=K) (xs:=one.map V.int) (ys:=other.map V.int) (Lt.mix one a other b m) (by rw[List.length_map,List.length_map,l]) (by rw[Lt.zFi rfl l.symm,List.length_map]) (by rw[List.length_map];exact lz) (SqL.of h1) (SqL.of h2) ?_ fun D H2 sm n hD=>q D H2 sm n hD
 intro i x y H2 p hx hy sm hp R k
 obtain⟨u,rfl,hu⟩:=int_at hx
 obtain⟨v,rfl,hv⟩:=int_at hy
 refine⟨p,_,rfl,SqT.of zD,rfl,_,_,rfl,_,_,rfl,rfl,?_⟩
 refine⟨_,rfl,_,rfl,_,_,rfl,rfl,mulN (b1 u (List.mem_of_getElem? hu)) aN N1 N1,_,rfl,_,rfl,_,_,rfl,rfl,mulN (b2 v (List.mem_of_getElem? hv)) bN N1 N1,_,_,rfl,rfl,_,rfl,_,_,rfl,rfl,m0,?_⟩
 exact k _ _ (zG (zN.refl _) hp) (by unfold Lt.mix;rw[List.getElem?_zipWith,hu,hv])
theorem rs_push {H:Hp}{O a:Addr}{as:List Addr}{rows:List (List Int)}{l:List Int}(hO:H O=some (.lst (as.map V.ref)))(pa:Paired (fun a (x:List Int)=>H a=some (.lst (x.map V.int))) as rows)(ha:H a=some (.lst (l.map V.int)))(nl:l≠[]):wZ (upd H O (.lst (as.map V.ref ++ [.ref a]))) O (rows ++ [l]):=by
 have ne1:∀ (b:Addr)(x:List Int),H b=some (.lst (x.map V.int))→(as≠[]∨x≠[])→b≠O:=fun b x hb o=>zCf hb hO fun z=>by
  injection z with z
  cases as with
  | nil=>cases x with
   | nil=>rcases o with o | o <;> exact o rfl
   | cons y ys=>cases z
  | cons a0 as0=>cases x with
   | nil=>cases z
   | cons y ys=>injection z with z1;cases z1
 have go:∀ {as':List Addr}{rows':List (List Int)}{o:HO},(as'≠[]→as≠[])→Paired (fun a (x:List Int)=>H a=some (.lst (x.map V.int))) as' rows'→Paired (fun a (x:List Int)=>upd H O o a=some (.lst (x.map V.int))) as' rows':=fun {as' rows' o} im p=>by
  induction p with
  | nil=>exact .nil
  | cons h _ ih =>
   have nn:=im (by simp)
   exact .cons ((vA (ne1 _ _ h (.inl nn))).trans h) (ih fun _=>nn)
 exact⟨as ++ [a],by rw[zD,List.map_append];rfl,L2.Paired.appP (go id pa) (.cons ((vA (ne1 _ _ ha (.inr nl))).trans ha) .nil)⟩
theorem up_bd {m:Int}{N:Nat}(mN:m < 2^N){l:List Int}(h:Rx.Up m l):Bd N l:=fun x hx=>by
 have:=h x hx
 have e:=zCt N
 omega
def spEnt:Sp:=fun vs H Q _=>∃ (r s:Addr)(ls:List (List Int))(row:List Int)(m:Int)(K N:Nat),vs=[.ref r,.ref s,.int m]∧wZ H r ls∧H s=some (.lst (row.map V.int))∧Lt.Tri m K 0 ls∧row.length=K∧K≤20000∧ls.length≤K∧(∀ l∈ls,Rx.Up m l)∧1≤m∧m < 2^N∧1≤N∧N≤9000 ∧
 ∀ t H' ls',zN H H'→H t=none→wZ H' t ls'→Lt.Ent m 0 ls (row.map fun x=>x%m) ls'→Q (.ref t) H'
theorem ok_entered (T:Txt K mg C_Frame t_LEAD_BITS t_FIRST_PRIME):Df P w K mg base 4 "entered" ["leads","row","modulus"] spEnt:=by
 have D_euclid:=zFr (P:=P) (w:=w) (base:=base) T
 have D_mixed:=ok_mixed (P:=P) (w:=w) (base:=base) T
 refine T.d_entered.ok zGy (fun vs H Q E h=>?_) (fun f cdv A outer s H vs Q E hr h=>?_)
 ·obtain⟨_,_,_,_,_,_,_,rfl,_⟩:=h;rfl
 obtain⟨r,s',ls,row,m,K',N,rfl,⟨as,h1,pa⟩,h2,tri,lr,Kz,lK,up,m1,mN,N1,N2,q⟩:=h
 have la:=zP pa
 have nd:=zGy.nd
 have eN:=zCt N
 refine⟨_,(zB (zM (i:=3) nd rfl (Or.inl rfl) (wV zC)) (zB (v8 (cap:=[("modulus",2)]) (tgs:=["number"]) (i:=4) nd rfl (Or.inl rfl) rfl rfl rfl (by decide +kernel) (by decide +kernel) (vI (by rfl)) (zV rfl vK) (zX ⟨rfl,Or.inl rfl,Or.inl rfl,_,rfl⟩ vH) (vB (by decide)) (vS (pv 1)) (fun C s H fp=>⟨(zL (i:=1) (show (["modulus","number"]:List Str).Nodup by decide +kernel) rfl (Or.inl rfl) (Or.inr rfl)),vJ,(zK vR (pv 1) (pv 0))⟩)) (zB (wM PassesOwn.never rfl (zCb (by rfl) T.b_enumerate (zA (pv 0) zC)) (wB rfl (zO (zL (i:=5) nd rfl (Or.inl rfl)) (zO (zL (i:=6) nd rfl (Or.inl rfl)) vV))) (zI (wJ (vF zCw (vC vP (pv 4) (pv 5) (fun _ _=>rfl)) zE (vM _)) (zI (zCc (pe_bm PySem.F.plainAttrs_list PySem.F.slot_list_append PySem.F.type_list_append jU (pv 3) (zA (pv 6) zC)))) (zB (zM (i:=7) nd rfl (Or.inl rfl) (zQ D_euclid (hr.mono (by decide)) (by rfl) (zA (vC vP (pv 6) (pv 5) (fun _ _=>rfl)) (zA (vC vP (pv 4) (pv 5) (fun _ _=>rfl)) (zA zE zC))))) (zB (zM (i:=8) nd rfl (Or.inl rfl) (zK vO (zK jD (vC vD (pv 7) zE (fun _ _=>rfl)) (zK vG (vC vD (pv 7) zE (fun _ _=>rfl)) (vC vP (pv 4) (pv 5) (fun _ _=>rfl)))) (vC vP (pv 6) (pv 5) (fun _ _=>rfl)))) (zB (zCc (pe_bm PySem.F.plainAttrs_list PySem.F.slot_list_append PySem.F.type_list_append jU (pv 3) (zA (zQ D_mixed (hr.mono (by decide)) (by rfl) (zA (pv 6) (zA (pv 8) (zA (pv 4) (zA (vC vD (pv 7) zE (fun _ _=>rfl)) (zA (pv 2) zC)))))) zC))) (zI (zM (i:=4) nd rfl (Or.inl rfl) (zQ D_mixed (hr.mono (by decide)) (by rfl) (zA (pv 4) (zA (zK vO (vC vP (pv 6) (pv 5) (fun _ _=>rfl)) (vC vD (pv 7) zE (fun _ _=>rfl))) (zA (pv 6) (zA (pe_un zDd (zK vO (vC vP (pv 4) (pv 5) (fun _ _=>rfl)) (vC vD (pv 7) zE (fun _ _=>rfl)))) (zA (pv 2) zC)))))))))))))) (zI (zU (pv 3)))))),?_⟩
 refine⟨zAu (by decide),fun O hO=>?_⟩
 have smO:zN H (upd H O (.lst [])):=zG (zN.refl _) hO
 refine⟨_,rfl,s',rfl,⟨_,SqL.of (smO _ _ h2)⟩,?_⟩
 refine v3 (K:=K) (xs:=row.map V.int) (row.map fun x=>x%m) (by rw[List.length_map,List.length_map]) (by rw[List.length_map];omega) (SqL.of (smO _ _ h2)) ?_ ?_
 ·intro i x H2 hx sm R k
  obtain⟨u,rfl,hu⟩:=int_at hx
  exact⟨_,rfl,_,rfl,_,_,rfl,rfl,(show 0 < m by omega),k _ _ (zN.refl _) (by rw[List.getElem?_map,hu];rfl)⟩
 intro t0 H0 sm0 _ ht0
 have hO0:H0 O=some (.lst (([]:List Addr).map V.ref)):=sm0 _ _ zD
 have smH:=smO.trans sm0
 have lf0:Lt.Lf m K' 0 (row.map fun x=>x%m):=⟨by rw[List.length_map,lr],fun i hi=>absurd hi (Nat.not_lt_zero _),fun i=>(Rx.In.mod (show 0 < m by omega) row fun x=>x).g (by omega) i⟩
 refine⟨_,rfl,r,rfl,⟨_,SqL.of (smH _ _ h1)⟩,zBa (K:=K) (xs:=as.map V.ref) (fun i σ H2=>zN H H2∧∃ (tl:Addr)(left:List Int)(bs:List Addr)(outs:List (List Int))(o1 o2 o3 o4:Option V),σ=[some (.ref r),some (.ref s'),some (.int m),some (.ref O),some (.ref tl),o1,o2,o3,o4]∧H2 tl=some (.lst (left.map V.int))∧H2 O=some (.lst (bs.map V.ref))∧Paired (fun a (x:List Int)=>H2 a=some (.lst (x.map V.int))) bs outs∧outs.length=i∧Lt.Tri m K' i (ls.drop i)∧Lt.Lf m K' i left∧∀ ls',Lt.Ent m i (ls.drop i) left ls'→Lt.Ent m 0 ls (row.map fun x=>x%m) (outs ++ ls'))
  ⟨smH,t0,_,[],[],none,none,none,none,rfl,ht0,hO0,.nil,rfl,tri,lf0,fun ls' e=>e⟩ (fun i σ H2 _ z=>z.1.seq (SqL.of h1)) ?_ ?_⟩
 ·rintro i x σ H2 pp hx ⟨sm,tl,left,bs,outs,o1,o2,o3,o4,rfl,hl,hOo,pb,lo,tr,lf,go⟩ hpp
  obtain⟨a,l,rfl,ha,hlead,hh⟩:=wX pa hx
  have il:i < ls.length:=(List.getElem?_eq_some_iff.mp hlead).1
  have ed:ls.drop i=l::ls.drop (i+1):=by
   rw[List.drop_eq_getElem_cons il]
   congr 1
   rw[List.getElem?_eq_getElem il] at hlead
   exact Option.some.inj hlead
  rw[ed] at tr go
  obtain⟨⟨ll,lz,l1,ld⟩,tr'⟩:=tr
  have lup:=up l (List.mem_of_getElem? hlead)
  have lm:=lup _ (Rx.j8 (l:=l) (i:=i) (by omega))
  have rng:=lf.rng i
  have smp:=zG (o:=.tup [.int (i:Nat),.ref a]) (zN.refl H2) hpp
  have hl1:=smp _ _ hl
  have ha1:=smp _ _ (sm _ _ hh)
  have hO1:=smp _ _ hOo
  have pb1:=vN smp pb
  have lnil:l≠[]:=fun z=>by rw[z] at ll;simp at ll;omega
  have fl:left.length=K':=lf.len
  have lbd:Bd N left:=fun y hy=>by
   obtain⟨j,hj,e⟩:=Rx.zGa hy
   have:=lf.rng j
   omega
  have cg:atI (left.map V.int) (i:Int)=some (.int (Lt.g left i)):=v4 (by rw[List.getElem?_map,Rx.wI (by omega)];rfl)
  have cl:atI (l.map V.int) (i:Int)=some (.int (Lt.g l i)):=v4 (by rw[List.getElem?_map,Rx.wI (by omega)];rfl)
  have lob:bs.length=i:=by rw[zP pb,lo]
  refine⟨pp,_,rfl,SqT.of zD,rfl,_,_,rfl,_,_,rfl,rfl,?_⟩
  refine⟨_,rfl,_,rfl,tl,_,_,_,rfl,rfl,SqL.of hl1,cg,rfl,_,rfl,zCs (fun c=>?_) (fun c=>?_)⟩
  ·have z:=vint c
   refine⟨_,rfl,.inl ⟨rfl,_,SqL.of hO1⟩,_,rfl,O,_,_,rfl,rfl,hO1,by rw[List.length_map,lob];exact zCq (by omega),?_⟩
   obtain⟨bs2,e1,e2⟩:=rs_push hO1 pb1 ha1 lnil
   refine⟨vT (sm.trans smp) hO,tl,left,bs2,outs ++ [l],_,_,_,_,rfl,(vA (zCf hl1 hO1 fun zz=>?_)).trans hl1,e1,e2,by rw[List.length_append,lo];rfl,tr',lf.next z,fun ls' e=>?_⟩
   ·injection zz with zz
    cases left with
    | nil=>simp at fl;omega
    | cons y ys=>cases bs with
     | nil=>cases zz
     | cons b0 bs0=>injection zz with z1;cases z1
   ·rw[List.append_assoc];exact go _ (.skip z e)
  ·have nz:=nvint c
   refine⟨_,rfl,_,rfl,a,_,_,_,rfl,rfl,SqL.of ha1,cl,_,rfl,_,rfl,tl,_,_,_,rfl,rfl,SqL.of hl1,cg,Lt.g l i,Lt.g left i,0,N,rfl,l1,rng.1,Int.le_refl 0,N1,N2,by omega,by omega,fun tt H3 r0 c0 r1 c1 sm3 ht S p0 bz _ cb=>?_⟩
   have z1:r1=0:=bts_zero (by omega)
   have dv:=S.dvd z1
   rw[z1] at S
   have bz':=Rx.bez S l1
   have i0:atI [V.int r0,V.int c0,V.int r1,V.int c1] 0=some (.int r0):=rfl
   have i1:atI [V.int r0,V.int c0,V.int r1,V.int c1] 1=some (.int c0):=rfl
   have r0l:=Int.le_of_dvd (show 0 < Lt.g l i by omega) dv.1
   have hl3:=sm3 _ _ hl1
   have ha3:=sm3 _ _ ha1
   have hO3:=sm3 _ _ hO1
   have pb3:=vN sm3 pb1
   obtain⟨α,hα⟩:∃ α:Int,α=(r0-c0*Lt.g left i)/Lt.g l i:=⟨_,rfl⟩
   have αb:α.natAbs < 2^(2*N+2):=by
    have e:α*Lt.g l i=r0-c0*Lt.g left i:=by rw[hα];omega
    have n1:(α.natAbs:Int)≤(α*Lt.g l i).natAbs:=by
     rw[Int.natAbs_mul,Int.natCast_mul]
     have:=Int.mul_le_mul_of_nonneg_left (show (1:Int)≤(Lt.g l i).natAbs by omega) (show (0:Int)≤α.natAbs by omega)
     omega
    rw[e] at n1
    have n2:((c0*Lt.g left i).natAbs:Int)≤2^N*2^N:=by
     rw[Int.natAbs_mul,Int.natCast_mul]
     exact Int.mul_le_mul (by omega) (by omega) (by omega) (by omega)
    have e4:((2^(2*N+2):Nat):Int)=2^N*2^N*4:=by
     rw[Int.natCast_pow,Int.pow_add,show 2*N=N+N by omega,Int.pow_add];rfl
    have:(1:Int)≤2^N:=Int.pow_pos (by decide)
    have:(2:Int)^N*1≤2^N*2^N:=Int.mul_le_mul_of_nonneg_left this (by omega)
    omega
   refine⟨_,rfl,tt,_,_,_,rfl,rfl,SqT.of ht,i0,_,rfl,tt,_,_,_,rfl,rfl,SqT.of ht,i1,_,rfl,_,rfl,tl,_,_,_,rfl,rfl,SqL.of hl3,cg,_,_,rfl,rfl,mulN (N:=N) (M:=N) (by omega) (by omega) (by omega) (by omega),_,_,rfl,rfl,_,rfl,_,rfl,a,_,_,_,rfl,rfl,SqL.of ha3,cl,_,_,rfl,rfl,div9 (by omega) (show (Lt.g l i).natAbs < 2^N by omega) N2,?_⟩
   dsimp only
   rw[← hα]
   have Nw:2^N≤2^(2*N+2):=Nat.pow_le_pow_right (by decide) (by omega)
   refine⟨_,rfl,.inl ⟨rfl,_,SqL.of hO3⟩,_,rfl,_,rfl,_,rfl,_,rfl,tt,_,_,_,rfl,rfl,SqT.of ht,i1,_,rfl,a,tl,l,left,α,c0,m,2*N+2,rfl,ha3,hl3,by rw[ll,fl],by omega,by omega,αb,by omega,zBy (up_bd mN lup) (by omega),zBy lbd (by omega),by omega,fun tm H4 sm4 _ hm4=>?_⟩
   have hO4:=sm4 _ _ hO3
   have pb4:=vN sm4 pb3
   refine⟨O,_,_,rfl,rfl,hO4,by rw[List.length_map,lob];exact zCq (by omega),?_⟩
   have mnil:Lt.mix l α left c0 m≠[]:=fun z=>by have:=Lt.zFi (a:=α) (b:=c0) (m:=m) ll fl;rw[z] at this;simp at this;omega
   obtain⟨bs2,e1,e2⟩:=rs_push hO4 pb4 hm4 mnil
   have nO:∀ (c:Addr)(y:List Int),y.length=K'→H4 c=some (.lst (y.map V.int))→c≠O:=fun c y ly hc=>zCf hc hO4 fun zz=>by
    injection zz with zz
    cases y with
    | nil=>simp at ly;omega
    | cons y ys=>cases bs with
     | nil=>cases zz
     | cons b0 bs0=>injection zz with z1;cases z1
   obtain⟨oo,hoo⟩:∃ oo:HO,oo=.lst (bs.map V.ref ++ [.ref tm]):=⟨_,rfl⟩
   have hl5:=(vA (o:=oo) (nO tl left fl (sm4 _ _ hl3))).trans (sm4 _ _ hl3)
   have ha5:=(vA (o:=oo) (nO a l ll (sm4 _ _ ha3))).trans (sm4 _ _ ha3)
   have ht5:=(vA (o:=oo) (zCf (sm4 _ _ ht) hO4 (by intro z;cases z))).trans (sm4 _ _ ht)
   have smU:zN H (upd H4 O oo):=vT (((sm.trans smp).trans sm3).trans sm4) hO
   rw[hoo] at hl5 ha5 ht5 smU
   generalize upd H4 O (.lst (bs.map V.ref ++ [.ref tm]))=H5 at e1 e2 hl5 ha5 ht5 smU ⊢
   have q1:=Int.ediv_nonneg (show 0≤Lt.g l i by omega) (show 0≤r0 by omega)
   have q2:=Int.ediv_le_self r0 (show 0≤Lt.g l i by omega)
   have q3:=Int.ediv_nonneg rng.1 (show 0≤r0 by omega)
   have q4:=Int.ediv_le_self r0 rng.1
   refine⟨_,rfl,_,rfl,_,rfl,a,_,_,_,rfl,rfl,SqL.of ha5,cl,_,rfl,tt,_,_,_,rfl,rfl,SqT.of ht5,i0,_,_,rfl,rfl,div9 (by omega) (show r0.natAbs < 2^N by omega) N2,_,rfl,_,rfl,_,rfl,tl,_,_,_,rfl,rfl,SqL.of hl5,cg,_,rfl,tt,_,_,_,rfl,rfl,SqT.of ht5,i0,_,_,rfl,rfl,div9 (by omega) (show r0.natAbs < 2^N by omega) N2,_,rfl,_,rfl,tl,a,left,l,_,_,m,N,rfl,hl5,ha5,by rw[ll,fl],by omega,by omega,by omega,by omega,lbd,up_bd mN lup,by omega,fun tn H6 sm6 _ hn6=>?_⟩
   refine⟨smU.trans sm6,tn,_,bs2,outs ++ [Lt.mix l α left c0 m],_,_,_,_,rfl,hn6,sm6 _ _ e1,vN sm6 e2,by rw[List.length_append,lo];rfl,tr',lf.mixed m1 ll lz p0 dv.1 dv.2,fun ls' e=>?_⟩
   rw[List.append_assoc]
   exact go _ (.mix α c0 r0 nz p0 dv.1 dv.2 (by rw[hα];exact bz') e)
 ·rintro σ H2 ⟨sm,tl,left,bs,outs,o1,o2,o3,o4,rfl,hl,hOo,pb,lo,tr,lf,go⟩
  rw[List.length_map,la,List.drop_length] at go
  refine⟨_,rfl,q O H2 outs sm hO ⟨bs,hOo,pb⟩ ?_⟩
  have:=go [] .nil
  rwa [List.append_nil] at this
def spLof (K:PySem.W.Frag):Sp:=fun vs H Q _=>∃ (r:Addr)(rows:List (List Int))(k rr N:Nat)(m:Int),vs=[.ref r,.int k,.int m]∧wZ H r rows∧rows.length=rr∧(∀ row∈rows,row.length=k)∧k+rr≤420∧1≤m∧m < 2^N∧1≤N∧N≤9000∧∀ t H' ls,zN H H'→wZ H' t ls→Rx.Lds m k rr rows rr ls→Q (.ref t) H'
theorem ok_leads_of (T:Txt K mg C_Frame t_LEAD_BITS t_FIRST_PRIME):Df P w K mg base 5 "leads_of" ["rows","size","modulus"] (spLof K):=by
 have D_hung:=ok_hung (P:=P) (w:=w) (base:=base) T
 have D_entered:=ok_entered (P:=P) (w:=w) (base:=base) T
 refine T.d_leads_of.ok zEl (fun vs H Q E h=>?_) (fun f cdv A outer s H vs Q E hr h=>?_)
 ·obtain⟨_,_,_,_,_,_,rfl,_⟩:=h;rfl
 obtain⟨r,rows,k,rr,N,m,rfl,⟨as,h1,pa⟩,lr,lw,kr,m1,mN,N1,N2,q⟩:=h
 have la:=zP pa
 have nd:=zEl.nd
 have eN:=zCt N
 refine⟨_,(zB (v8 (cap:=[("modulus",2),("size",1),("rows",0)]) (tgs:=["column"]) (i:=3) nd rfl (Or.inl rfl) rfl rfl rfl (by decide +kernel) (by decide +kernel) (vI (by rfl)) (zV rfl (zV rfl (zV rfl vK))) (zX ⟨rfl,Or.inl rfl,Or.inl rfl,_,rfl⟩ (zX ⟨rfl,Or.inl rfl,Or.inl rfl,_,rfl⟩ (zX ⟨rfl,Or.inl rfl,Or.inl rfl,_,rfl⟩ vH))) (vB (by decide)) (wN (by rfl) T.b_range (zA (pv 1) zC)) (fun C s H fp=>⟨(zL (i:=3) (show (["modulus","size","rows","column"]:List Str).Nodup by decide +kernel) rfl (Or.inl rfl) (Or.inr rfl)),vJ,(zQ D_hung (hr.mono (by decide)) (by rfl) (zA (zK vU (pv 1) (zT (call_lenK (K:=K) rfl) (by rfl) T.b_len L2.v6 (zA (pv 2) zC))) (zA (pv 3) (zA (pv 0) zC))))⟩)) (zB (wM PassesOwn.never rfl (zCb (by rfl) T.b_enumerate (zA (pv 0) zC)) (wB rfl (zO (zL (i:=4) nd rfl (Or.inl rfl)) (zO (zL (i:=5) nd rfl (Or.inl rfl)) vV))) (zI (zM (i:=3) nd rfl (Or.inl rfl) (zQ D_entered (hr.mono (by decide)) (by rfl) (zA (pv 3) (zA (zK zFb (pv 5) (zQ D_hung (hr.mono (by decide)) (by rfl) (zA (zT zS (by rfl) T.b_len L2.v6 (zA (pv 0) zC)) (zA (pv 4) (zA zE zC))))) (zA (pv 2) zC))))))) (zI (zU (pv 3))))),?_⟩
 refine⟨_,rfl,k,rfl,by omega,by omega,?_⟩
 refine comp_toN (n:=k) (Rx.ls0 m k rr) (by unfold Rx.ls0;rw[List.length_map,List.length_range]) (by omega) ?_ ?_
 ·intro i H2 hi sm R kk
  refine⟨_,rfl,_,rfl,r,_,rfl,.inl (sm.seq (SqL.of h1)),_,_,rfl,rfl,_,rfl,_,rfl,k+rr,(i:Nat),m,(by rw[List.length_map,la,lr];rfl),by omega,by omega,fun t H3 sm3 _ h3=>?_⟩
  rw[hung_eq (show i < k+rr by omega)] at h3
  exact kk H3 t _ sm3 (by unfold Rx.ls0;rw[List.getElem?_map,List.getElem?_range hi];rfl) h3
 intro t0 H0 sm0 _ h0
 refine⟨_,rfl,r,rfl,⟨_,SqL.of (sm0 _ _ h1)⟩,zBa (K:=K) (xs:=as.map V.ref) (fun i σ H2=>zN H H2∧∃ (tl:Addr)(ls:List (List Int))(o1 o2:Option V),σ=[some (.ref r),some (.int k),some (.int m),some (.ref tl),o1,o2]∧wZ H2 tl ls∧Rx.Lds m k rr rows i ls) ⟨sm0,t0,_,none,none,rfl,h0,.start m1 k rr rows⟩ (fun i σ H2 _ z=>z.1.seq (SqL.of h1)) ?_ ?_⟩
 ·rintro i x σ H2 pp hx ⟨sm,tl,ls,o1,o2,rfl,hls,L⟩ hpp
  obtain⟨a,row,rfl,ha,hrow,hh⟩:=wX pa hx
  have il:i < rr:=by rw[← lr];exact (List.getElem?_eq_some_iff.mp hrow).1
  have rl:=lw row (List.mem_of_getElem? hrow)
  have smp:=zG (o:=.tup [.int (i:Nat),.ref a]) (zN.refl H2) hpp
  refine⟨pp,_,rfl,SqT.of zD,rfl,_,_,rfl,_,_,rfl,rfl,?_⟩
  refine⟨_,rfl,_,rfl,_,rfl,r,_,rfl,.inl (SqL.of (smp _ _ (sm _ _ h1))),_,rfl,rr,(i:Nat),1,(by rw[List.length_map,la,lr];rfl),by omega,by omega,fun th H3 sm3 _ h3=>?_⟩
  rw[hung_eq il] at h3
  refine⟨a,th,_,_,rfl,rfl,sm3 _ _ (smp _ _ (sm _ _ hh)),h3,?_,fun tc htc=>?_⟩
  ·rw[List.length_map,List.length_map,Rx.zAa,rl];exact zAu (by omega)
  have smc:=zG (o:=.lst (row.map V.int ++ (Rx.hun rr i 1).map V.int)) (zN.refl H3) htc
  refine⟨_,rfl,tl,tc,ls,row ++ Rx.hun rr i 1,m,k+rr,N,rfl,((hls.same smp).same sm3).same smc,by rw[zD,List.map_append],L.tri,by rw[List.length_append,rl,Rx.zAa],by omega,by rw[L.len];omega,L.up,m1,mN,N1,N2,fun tn H4 ls' sm4 _ h4 ent=>?_⟩
  have er:rows.getD i []=row:=Rx.getR hrow
  exact⟨(((sm.trans smp).trans sm3).trans smc).trans sm4,tn,ls',_,_,rfl,h4,L.enter m1 lr lw il (by rw[er];exact ent)⟩
 ·rintro σ H2 ⟨sm,tl,ls,o1,o2,rfl,hls,L⟩
  rw[List.length_map,la,lr] at L
  exact⟨_,rfl,q tl H2 ls sm hls L⟩
theorem cut_mid (ns:List Int){lo hi:Nat}(h:lo≤hi)(h2:hi≤ns.length):cutV (ns.map V.int) (some (lo:Int)) (some (hi:Int))=((ns.take hi).drop lo).map V.int:=by
 unfold cutV
 rw[HT.sIx_nat,HT.sIx_nat,List.length_map,← List.map_drop,← List.map_take]
 congr 1
 rw[Nat.min_eq_left h2,Nat.min_eq_left (by omega),List.drop_take]
def spBarr (K:PySem.W.Frag):Sp:=fun vs H Q _=>∃ (r:Addr)(rows ls:List (List Int))(k rr j c N:Nat)(m:Int),vs=[.ref r,.int c,.int m]∧wZ H r ls∧Rx.Lds m k rr rows j ls∧c < k∧k+rr≤420∧1≤m∧m < 2^N∧1≤N∧N≤9000∧∀ t H' am,zN H H'→H t=none→H' t=some (.lst (am.map V.int))→am.length=k→Rx.Up m am→Lt.Bar m k c ls 0 (Rx.fn am)→Q (.ref t) H'
theorem ok_barring (T:Txt K mg C_Frame t_LEAD_BITS t_FIRST_PRIME):Df P w K mg base 3 "barring" ["leads","column","modulus"] (spBarr K):=by
 have D_hung:=ok_hung (P:=P) (w:=w) (base:=base) T
 have D_weighed:=zBe (P:=P) (w:=w) (base:=base) T
 refine T.d_barring.ok zGe (fun vs H Q E h=>?_) (fun f cdv A outer s H vs Q E hr h=>?_)
 ·obtain⟨_,_,_,_,_,_,_,_,_,rfl,_⟩:=h;rfl
 obtain⟨r,rows,ls,k,rr,j,c,N,m,rfl,⟨as,h1,pa⟩,L,ck,kr,m1,mN,N1,N2,q⟩:=h
 have la:=zP pa
 have lk:=L.len
 have nd:=zGe.nd
 have eN:=zCt N
 have lead:∀ i:Nat,i < k→(ls.getD i []).length=k+rr∧1≤Lt.g (ls.getD i []) i∧Lt.g (ls.getD i []) i∣m∧Lt.g (ls.getD i []) i≤m∧1≤m/Lt.g (ls.getD i []) i∧m/Lt.g (ls.getD i []) i≤m:=fun i hi=>by
  have t:=L.tri.at (Rx.wD (rows:=ls) (i:=i) (by omega))
  rw[Nat.zero_add] at t
  have le:=Int.le_of_dvd (by omega) t.2.2.2
  refine⟨t.1,t.2.2.1,t.2.2.2,le,?_,Int.ediv_le_self _ (by omega)⟩
  obtain⟨x,hx⟩:=t.2.2.2
  rw[hx,Int.mul_ediv_cancel_left _ (by omega)]
  rcases Int.lt_or_le 0 x with z | z
  ·exact z
  ·have:=Int.mul_le_mul_of_nonneg_left z (show 0≤Lt.g (ls.getD i []) i by omega);omega
 obtain⟨ac,hac,hcc⟩:=at_row pa (Rx.wD (rows:=ls) (i:=c) (by omega))
 have lc:=lead c ck
 have cg:atI ((ls.getD c []).map V.int) (c:Int)=some (.int (Lt.g (ls.getD c []) c)):=v4 (by rw[List.getElem?_map,Rx.wI (by omega)];rfl)
 refine⟨_,(zB (zM (i:=3) nd rfl (Or.inl rfl) (zQ D_hung (hr.mono (by decide)) (by rfl) (zA (zT zS (by rfl) T.b_len L2.v6 (zA (pv 0) zC)) (zA (pv 1) (zA (zK vO (pv 2) (vC vP (vC vP (pv 0) (pv 1) (fun _ _=>rfl)) (pv 1) (fun _ _=>rfl))) zC))))) (zB (wM PassesOwn.never rfl (pi_rangeD (by rfl) T.b_range (zA (zK jD (pv 1) zE) (zA (pe_un zDd zE) (zA (pe_un zDd zE) zC)))) (zL (i:=4) nd rfl (Or.inl rfl)) (zB (zM (i:=5) nd rfl (Or.inl rfl) (vC vP (pv 0) (pv 4) (fun _ _=>rfl))) (zB (zM (i:=6) nd rfl (Or.inl rfl) (zQ D_weighed (hr.mono (by decide)) (by rfl) (zA (j6 zCz (pv 5) (wU (zK vU (pv 4) zE)) (wU (zK vU (pv 1) zE))) (zA (j6 zCz (pv 3) (wU (zK vU (pv 4) zE)) (wU (zK vU (pv 1) zE))) zC)))) (zI (zCr (zK vR (pe_un zDd (zK vO (pv 6) (vC vP (pv 5) (pv 4) (fun _ _=>rfl)))) (zK vO (pv 2) (vC vP (pv 5) (pv 4) (fun _ _=>rfl)))) (zDl (pv 3) (pv 4) set_list)))))) (zI (zU (pv 3))))),?_⟩
 refine⟨_,rfl,r,_,rfl,.inl (SqL.of h1),_,rfl,_,rfl,_,rfl,_,rfl,r,_,_,_,rfl,rfl,SqL.of h1,hac,_,rfl,ac,_,_,_,rfl,rfl,SqL.of hcc,cg,_,_,rfl,rfl,div9 (by omega) (show (Lt.g (ls.getD c []) c).natAbs < 2^N by omega) N2,k,(c:Nat),_,(by rw[List.length_map,la,lk];rfl),by omega,by omega,fun t0 H0 sm0 n0 h0=>?_⟩
 rw[hung_eq ck] at h0
 obtain⟨v0,hv0⟩:∃ v0:Int,v0=m/Lt.g (ls.getD c []) c:=⟨_,rfl⟩
 rw[← hv0] at h0
 have b0:Lt.Bar m k c ls c (Rx.fn (Rx.hun k c v0)):=Rx.Bar.cong (Lt.bar0 L.tri ck (Rx.wD (rows:=ls) (i:=c) (by omega))) fun i=>by
  unfold Rx.fn
  rw[Int.toNat_natCast,Rx.zBu ck,hv0]
  by_cases z:i=c
  ·rw[if_pos z,if_pos (by omega)]
  ·rw[if_neg z,if_neg (by omega)]
 have u0:Rx.Up m (Rx.hun k c v0):=fun x hx=>by
  obtain⟨i,hi,rfl⟩:=Rx.zGa hx
  rw[Rx.zBu ck]
  split <;> omega
 refine⟨_,rfl,_,_,rfl,rfl,_,rfl,_,rfl,c,rfl,by omega,for_range3 (n:=c) (fun i σ H2=>zN H H2∧∃ (am:List Int)(o1 o2 o3:Option V),σ=[some (.ref r),some (.int c),some (.int m),some (.ref t0),o1,o2,o3]∧H2 t0=some (.lst (am.map V.int))∧am.length=k∧Rx.Up m am∧Lt.Bar m k c ls (c-i) (Rx.fn am)) ⟨sm0,_,none,none,none,rfl,h0,Rx.zAa ..,u0,b0⟩ ?_ ?_⟩
 ·rintro i σ H2 hi ⟨sm,am,o1,o2,o3,rfl,ha,lam,up,bar⟩
  obtain⟨pl,hpl⟩:∃ pl:Nat,pl=c-1-i:=⟨_,rfl⟩
  have ep:(c:Int)-1+(i:Int)*(-1)=(pl:Nat):=by omega
  rw[ep]
  have epc:c-i=pl+1:=by omega
  rw[epc] at bar
  have pk':pl < k:=by omega
  obtain⟨ap,hap,hpp⟩:=at_row pa (Rx.wD (rows:=ls) (i:=pl) (by omega))
  have lp:=lead pl pk'
  have hrow:=Rx.wD (rows:=ls) (i:=pl) (by omega)
  have pg:atI ((ls.getD pl []).map V.int) (pl:Int)=some (.int (Lt.g (ls.getD pl []) pl)):=v4 (by rw[List.getElem?_map,Rx.wI (by omega)];rfl)
  have hp2:=sm _ _ hpp
  refine⟨_,rfl,_,rfl,r,_,_,_,rfl,rfl,SqL.of (sm _ _ h1),hap,?_⟩
  have e1:(pl:Int)+1=((pl+1:Nat):Int):=by omega
  have e2:(c:Int)+1=((c+1:Nat):Int):=by omega
  refine⟨_,rfl,_,rfl,_,_,rfl,rfl,_,rfl,_,rfl,_,_,rfl,rfl,_,rfl,ap,_,rfl,SqL.of hp2,fun s1 hs1=>?_⟩
  have sm1:=zG (o:=.lst (cutV ((ls.getD pl []).map V.int) (some ((pl:Int)+1)) (some ((c:Int)+1)))) (zN.refl H2) hs1
  have hs1':upd H2 s1 (.lst (cutV ((ls.getD pl []).map V.int) (some ((pl:Int)+1)) (some ((c:Int)+1)))) s1=some (.lst ((((ls.getD pl []).take (c+1)).drop (pl+1)).map V.int)):=by
   rw[zD,e1,e2,cut_mid _ (by omega) (by omega)]
  dsimp only
  generalize upd H2 s1 (.lst (cutV ((ls.getD pl []).map V.int) (some ((pl:Int)+1)) (some ((c:Int)+1))))=H3 at sm1 hs1' ⊢
  refine⟨_,rfl,_,rfl,_,_,rfl,rfl,_,rfl,_,rfl,_,_,rfl,rfl,_,rfl,t0,_,rfl,SqL.of (sm1 _ _ ha),fun s2 hs2=>?_⟩
  have sm2:=zG (o:=.lst (cutV (am.map V.int) (some ((pl:Int)+1)) (some ((c:Int)+1)))) (zN.refl H3) hs2
  have hs2':upd H3 s2 (.lst (cutV (am.map V.int) (some ((pl:Int)+1)) (some ((c:Int)+1)))) s2=some (.lst (((am.take (c+1)).drop (pl+1)).map V.int)):=by
   rw[zD,e1,e2,cut_mid _ (by omega) (by omega)]
  dsimp only
  generalize upd H3 s2 (.lst (cutV (am.map V.int) (some ((pl:Int)+1)) (some ((c:Int)+1))))=H4 at sm2 hs2' ⊢
  have upl:Bd N (ls.getD pl []):=up_bd mN (L.up _ (Rx.vZ (by omega)))
  have upa:Bd N am:=up_bd mN up
  refine⟨s1,s2,((ls.getD pl []).take (c+1)).drop (pl+1),(am.take (c+1)).drop (pl+1),N,N,rfl,SqL.of (sm2 _ _ hs1'),SqL.of hs2',by rw[List.length_drop,List.length_take,List.length_drop,List.length_take];omega,by rw[List.length_drop,List.length_take];omega,fun x hx=>upl x (List.mem_of_mem_take (List.mem_of_mem_drop hx)),fun x hx=>upa x (List.mem_of_mem_take (List.mem_of_mem_drop hx)),by omega,by omega,fun H5 sm5=>?_⟩
  rw[Rx.dot_cut (k:=k) (by omega) lam (by omega) (by omega) (fun i hi=>by have:=bar.lo i hi;unfold Rx.fn at this;rwa [Int.toNat_natCast] at this) (fun i hi=>by have:=bar.hi i (by omega);unfold Rx.fn at this;rwa [Int.toNat_natCast] at this)]
  have smA:=(sm1.trans sm2).trans sm5
  have b1:=Lt.bar1 m1 L.tri L.how ck (by omega) bar hrow
  obtain⟨dtv,hdt⟩:∃ dtv:Int,dtv=Lt.dt k (ls.getD pl []) (Rx.fn am):=⟨_,rfl⟩
  rw[← hdt] at b1 ⊢
  obtain⟨nv,hnv⟩:∃ nv:Int,nv=-(dtv/Lt.g (ls.getD pl []) pl)%(m/Lt.g (ls.getD pl []) pl):=⟨_,rfl⟩
  rw[← hnv] at b1
  have nv0:0≤nv:=by rw[hnv];exact Int.emod_nonneg _ (by omega)
  have nv1:nv < m/Lt.g (ls.getD pl []) pl:=by rw[hnv];exact Int.emod_lt_of_pos _ (by omega)
  refine⟨_,rfl,_,rfl,_,rfl,ap,_,_,_,rfl,rfl,SqL.of (smA _ _ hp2),pg,_,_,rfl,rfl,div9 (by omega) (show (Lt.g (ls.getD pl []) pl).natAbs < 2^N by omega) N2,_,rfl,_,rfl,_,rfl,_,rfl,ap,_,_,_,rfl,rfl,SqL.of (smA _ _ hp2),pg,_,_,rfl,rfl,div9 (by omega) (show (Lt.g (ls.getD pl []) pl).natAbs < 2^N by omega) N2,_,_,rfl,rfl,(show 0 < m/Lt.g (ls.getD pl []) pl by omega),?_⟩
  dsimp only
  rw[← hnv]
  refine⟨_,rfl,_,rfl,t0,_,_,_,rfl,rfl,smA _ _ ha,zDx (by omega) (by rw[List.length_map];omega),?_⟩
  rw[Int.toNat_natCast,set_int]
  refine⟨vT (sm.trans smA) n0,am.set pl nv,_,_,_,rfl,zD,by rw[List.length_set,lam],fun x hx=>?_,?_⟩
  ·rcases List.mem_or_eq_of_mem_set hx with z | z
   ·exact up x z
   ·rw[z];omega
  ·rw[show c-(i+1)=pl by omega]
   refine Rx.Bar.cong b1.2 fun t=>?_
   unfold Rx.fn
   rw[Int.toNat_natCast,Rx.g_set (by omega)]
   by_cases z:t=pl
   ·rw[if_pos z,if_pos (by omega)]
   ·rw[if_neg z,if_neg (by omega)]
 ·rintro σ H2 ⟨sm,am,o1,o2,o3,rfl,ha,lam,up,bar⟩
  rw[Nat.sub_self] at bar
  exact⟨_,rfl,q t0 H2 am sm n0 ha lam up bar⟩
def spWhc:Sp:=fun vs H Q _=>∃ (t tt:Addr)(tops:List Int)(b m:Int)(N:Nat),vs=[.ref t,.int m]∧H t=some (.tup [.ref tt,.int b])∧H tt=some (.lst (tops.map V.int))∧tops.length≤20000∧1≤b∧b < 2^N∧0≤m∧m < 2^N∧Bd N tops∧N≤9000∧∀ u H',zN H H'→H' u=some (.lst ((Rx.wh tops (m/b)).map V.int))→Q (.ref u) H'
theorem zFk (T:Txt K mg C_Frame t_LEAD_BITS t_FIRST_PRIME):Df P w K mg base 1 "whole_counts" ["made","modulus"] spWhc:=by
 refine T.d_whole_counts.ok zAy (fun vs H Q E h=>?_) (fun f cdv A outer s H vs Q E hr h=>?_)
 ·obtain⟨_,_,_,_,_,_,rfl,_⟩:=h;rfl
 obtain⟨t,tt,tops,b,m,N,rfl,ht,htt,lz,b1,bN,m0,mN,bt,N2,q⟩:=h
 have nd:=zAy.nd
 have eN:=zCt N
 have i0:atI [V.ref tt,V.int b] 0=some (.ref tt):=rfl
 have i1:atI [V.ref tt,V.int b] 1=some (.int b):=rfl
 have q0:=Int.ediv_nonneg m0 (show 0≤b by omega)
 have q1:=Int.ediv_le_self b m0
 refine⟨_,(zI (zU (zZ (cap:=[("modulus",1),("made",0)]) (tgs:=["top"])  rfl rfl rfl (by decide +kernel) (by decide +kernel) (vI (by rfl)) (zV rfl (zV rfl vK)) (zX ⟨rfl,Or.inl rfl,Or.inl rfl,_,rfl⟩ (zX ⟨rfl,Or.inl rfl,Or.inl rfl,_,rfl⟩ vH)) (vB (by decide)) (vS (vC vD (pv 0) zE (fun _ _=>rfl))) (fun C s H fp=>⟨(zL (i:=2) (show (["modulus","made","top"]:List Str).Nodup by decide +kernel) rfl (Or.inl rfl) (Or.inr rfl)),vJ,(zK vG (pv 2) (zK vO (pv 0) (vC (ix_tupF (K:=K) rfl) (pv 1) zE (fun _ _=>rfl))))⟩)))),?_⟩
 refine⟨_,rfl,t,_,_,_,rfl,rfl,SqT.of ht,i0,tt,rfl,⟨_,SqL.of htt⟩,?_⟩
 refine v3 (K:=K) (xs:=tops.map V.int) (Rx.wh tops (m/b)) (by rw[Rx.wh_len,List.length_map]) (by rw[List.length_map];exact lz) (SqL.of htt) ?_ fun D H2 sm _ hD=>q D H2 sm hD
 intro i x H2 hx sm R k
 obtain⟨u,rfl,hu⟩:=int_at hx
 exact⟨_,rfl,_,rfl,_,rfl,t,_,_,_,rfl,rfl,SqT.of (sm _ _ ht),i1,_,_,rfl,rfl,div9 (by omega) (show b.natAbs < 2^N by omega) N2,_,_,rfl,rfl,mulN (M:=N) (bt u (List.mem_of_getElem? hu)) (by omega) (by omega) (by omega),k _ _ (zN.refl _) (by unfold Rx.wh;rw[List.getElem?_map,hu];rfl)⟩
def spDvs:Sp:=fun vs H Q _=>∃ (m n:Int),vs=[.int m,.int n]∧0≤m∧(m∣n→Q (.bl true) H)∧(¬ m∣n→Q (.bl false) H)
theorem ok_divides (T:Txt K mg C_Frame t_LEAD_BITS t_FIRST_PRIME):Df P w K mg base 1 "divides" ["modulus","number"] spDvs:=by
 refine T.d_divides.ok zGu (fun vs H Q E h=>?_) (fun f cdv A outer s H vs Q E hr h=>?_)
 ·obtain⟨_,_,rfl,_⟩:=h;rfl
 obtain⟨m,n,rfl,m0,q1,q2⟩:=h
 have nd:=zGu.nd
 have key:∀ c:Bool,(c=true↔m∣n)→Q (.bl c) H:=fun c e=>by
  cases c with
  | true=>exact q1 (e.mp rfl)
  | false=>exact q2 fun z=>by have:=e.mpr z;cases this
 refine⟨_,(zB (wJ (vF zCw (pv 0) zE (vM _)) (zI (zU (zDc zCw (pv 1) zE (vM _)))) vQ) (zI (zU (zDc zCw (zK vR (pv 1) (pv 0)) zE (vM _))))),?_⟩
 refine⟨_,rfl,rfl,_,rfl,zCs (fun c=>?_) (fun c=>?_)⟩
 ·have z:=vint c
  subst z
  refine⟨_,rfl,rfl,key _ ⟨fun h=>?_,fun h=>?_⟩⟩
  ·rw[vint h];exact Int.dvd_zero _
  ·rw[Int.zero_dvd.mp h];exact decide_eq_true rfl
 ·have z:=nvint c
  refine⟨_,rfl,_,rfl,_,_,rfl,rfl,(show 0 < m by omega),rfl,key _ ⟨fun h=>?_,fun h=>?_⟩⟩
  ·exact Int.dvd_of_emod_eq_zero (vint h)
  ·have:n%m=0:=Int.emod_eq_zero_of_dvd h
   exact decide_eq_true (congrArg V.int this)
def spSum (K:PySem.W.Frag):Sp:=fun vs H Q _=>∃ (r s:Addr)(steps:List (List Int))(counts:List Int)(n qq N M:Nat),vs=[.ref r,.ref s,.int n]∧wZ H r steps∧H s=some (.lst (counts.map V.int))∧steps.length=qq∧counts.length=qq∧(∀ x∈steps,x.length=n∧Bd N x)∧Bd M counts∧n≤20000∧qq≤20000∧N≤1000000∧M≤1000000 ∧
 ∀ t H' out,zN H H'→H' t=some (.lst (out.map V.int))→out.length=n→(∀ c:Nat,c < n→Lt.g out c=Ld.S qq fun j=>Lt.g counts j.toNat*Lt.g (steps.getD j.toNat []) c)→Q (.ref t) H'
theorem ok_summed (T:Txt K mg C_Frame t_LEAD_BITS t_FIRST_PRIME):Df P w K mg base 1 "summed" ["steps","counts","size"] (spSum K):=by
 refine T.d_summed.ok sc_summed (fun vs H Q E h=>?_) (fun f cdv A outer s H vs Q E hr h=>?_)
 ·obtain⟨_,_,_,_,_,_,_,_,rfl,_⟩:=h;rfl
 obtain⟨r,s',steps,counts,n,qq,N,M,rfl,⟨as,h1,pa⟩,h2,ls,lc,lw,bc,nz,qz,N1,M1,q⟩:=h
 have la:=zP pa
 have nd:=sc_summed.nd
 refine⟨_,(zB (zM (i:=3) nd rfl (Or.inl rfl) (zK zEx (wV (zA zE zC)) (pv 2))) (zB (wM PassesOwn.never rfl (zBl (by rfl) T.b_zip (zA (pv 0) (zA (pv 1) zC))) (wB rfl (zO (zL (i:=4) nd rfl (Or.inl rfl)) (zO (zL (i:=5) nd rfl (Or.inr rfl)) vV))) (zI (v8 (cap:=[("many",5)]) (tgs:=["number","more"]) (i:=3) nd rfl (Or.inl rfl) rfl rfl rfl (by decide +kernel) (by decide +kernel) (vI (by rfl)) (zV rfl vK) (zX ⟨rfl,Or.inl rfl,Or.inl rfl,_,rfl⟩ vH) (v5 (by decide) (by decide)) (zBl (by rfl) T.b_zip (zA (pv 3) (zA (pv 4) zC))) (fun C s H fp=>⟨(wB rfl (zO (zL (i:=1) (show (["many","number","more"]:List Str).Nodup by decide +kernel) rfl (Or.inl rfl) (Or.inr rfl)) (zO (zL (i:=2) (show (["many","number","more"]:List Str).Nodup by decide +kernel) rfl (Or.inl rfl) (Or.inr rfl)) vV))),vJ,(zK vU (pv 1) (zK vG (pv 0) (pv 2)))⟩)))) (zI (zU (pv 3))))),?_⟩
 refine⟨(by show 1≤sizeLine;decide),fun lo hlo=>⟨_,rfl,lo,_,_,rfl,rfl,zD,by omega,by omega,(by show 1*_≤_;exact zAu (by omega)),fun p hp=>?_⟩⟩
 rw[rep0]
 have smP:zN H (upd (upd H lo (.lst [V.int 0])) p (.lst ((List.replicate n (0:Int)).map V.int))):=zG (zG (zN.refl _) hlo) hp
 have hP:upd (upd H lo (.lst [V.int 0])) p (.lst ((List.replicate n (0:Int)).map V.int)) p=some (.lst ((List.replicate n (0:Int)).map V.int)):=zD
 generalize upd (upd H lo (.lst [V.int 0])) p (.lst ((List.replicate n (0:Int)).map V.int))=H0 at smP hP ⊢
 refine⟨_,rfl,_,rfl,r,s',rfl,⟨_,SqL.of (smP _ _ h1)⟩,⟨_,SqL.of (smP _ _ h2)⟩,for_zip (K:=K) (xs:=as.map V.ref) (ys:=counts.map V.int) (by rw[List.length_map,List.length_map,la,ls,lc]) (fun i σ H2=>zN H H2∧∃ (tl:Addr)(out:List Int)(o1 o2:Option V),σ=[some (.ref r),some (.ref s'),some (.int n),some (.ref tl),o1,o2]∧H2 tl=some (.lst (out.map V.int))∧out.length=n∧∀ c:Nat,c < n→Lt.g out c=Ld.S i fun j=>Lt.g counts j.toNat*Lt.g (steps.getD j.toNat []) c)
  ⟨smP,p,_,none,none,rfl,hP,List.length_replicate,fun c hc=>Rx.g_rep hc⟩ (fun i σ H2 _ z=>⟨z.1.seq (SqL.of h1),z.1.seq (SqL.of h2)⟩) ?_ ?_⟩
 ·rintro i x y σ H2 pp hx hy ⟨sm,tl,out,o1,o2,rfl,hl,lo',eq⟩ hpp
  obtain⟨a,row,rfl,ha,hrow,hh⟩:=wX pa hx
  obtain⟨v,rfl,hv⟩:=int_at hy
  have rl:=lw row (List.mem_of_getElem? hrow)
  have smp:=zG (o:=.tup [.ref a,.int v]) (zN.refl H2) hpp
  refine⟨pp,_,rfl,SqT.of zD,rfl,_,_,rfl,_,_,rfl,rfl,?_⟩
  refine⟨_,rfl,_,rfl,tl,a,rfl,⟨_,SqL.of (smp _ _ hl)⟩,⟨_,SqL.of (smp _ _ (sm _ _ hh))⟩,?_⟩
  refine zBd (K:=K) (xs:=out.map V.int) (ys:=row.map V.int) (List.zipWith (fun x y=>x+v*y) out row) (by rw[List.length_map,List.length_map,lo',rl.1]) (by rw[List.length_zipWith,List.length_map,lo',rl.1,Nat.min_self]) (by rw[List.length_map];omega) (SqL.of (smp _ _ hl)) (SqL.of (smp _ _ (sm _ _ hh))) ?_ ?_
  ·intro i' x' y' H3 p3 hx' hy' sm3 hp3 R k
   obtain⟨u1,rfl,hu1⟩:=int_at hx'
   obtain⟨u2,rfl,hu2⟩:=int_at hy'
   refine⟨p3,_,rfl,SqT.of zD,rfl,_,_,rfl,_,_,rfl,rfl,?_⟩
   exact⟨_,rfl,_,rfl,_,rfl,_,_,rfl,rfl,mulN (bc v (List.mem_of_getElem? hv)) (rl.2 u2 (List.mem_of_getElem? hu2)) M1 N1,_,_,rfl,rfl,k _ _ (zG (zN.refl _) hp3) (by rw[List.getElem?_zipWith,hu1,hu2])⟩
  ·intro D H3 sm3 _ hD
   refine⟨(sm.trans smp).trans sm3,D,_,_,_,rfl,hD,by rw[List.length_zipWith,lo',rl.1,Nat.min_self],fun c hc=>?_⟩
   rw[Rx.g_zip (by omega) (by omega),eq c hc]
   show _=(Ld.S i fun j=>Lt.g counts j.toNat*Lt.g (steps.getD j.toNat []) c)+Lt.g counts (i:Int).toNat*Lt.g (steps.getD (i:Int).toNat []) c
   rw[Int.toNat_natCast,Rx.wH hv,Rx.getR hrow]
 ·rintro σ H2 ⟨sm,tl,out,o1,o2,rfl,hl,lo',eq⟩
  rw[List.length_map,la,ls] at eq
  exact⟨_,rfl,q tl H2 out sm hl lo' eq⟩
def spFub (K:PySem.W.Frag):Sp:=fun vs H Q _=>∃ (r t wt:Addr)(v0:V)(steps:List (List Int))(W:List Int)(m:Int)(w N M:Nat),vs=[.ref r,.ref t]∧wZ H r steps∧H t=some (.tup [v0,.ref wt,.int m])∧H wt=some (.lst (W.map V.int))∧W.length=w∧(∀ x∈steps,x.length=w∧Bd N x)∧Bd M W∧w≤20000∧N≤1000000∧M≤1000000∧0≤m ∧
 (∀ (i:Nat) H',zN H H'→i < steps.length→¬ m∣Rx.dot (steps.getD i []) W→Q (.int i) H')∧∀ H',zN H H'→(∀ i,i < steps.length→m∣Rx.dot (steps.getD i []) W)→Q .non H'
theorem jX (T:Txt K mg C_Frame t_LEAD_BITS t_FIRST_PRIME):Df P w K mg base 3 "first_unbarred" ["steps","bar"] (spFub K):=by
 have D_divides:=ok_divides (P:=P) (w:=w) (base:=base) T
 have D_weighed:=zBe (P:=P) (w:=w) (base:=base) T
 refine T.d_first_unbarred.ok jW (fun vs H Q E h=>?_) (fun f cdv A outer s H vs Q E hr h=>?_)
 ·obtain⟨_,_,_,_,_,_,_,_,_,_,rfl,_⟩:=h;rfl
 obtain⟨r,t,wt,v0,steps,W,m,w',N,M,rfl,⟨as,h1,pa⟩,ht,hw,lW,lw,bW,wz,N1,M1,m0,q1,q2⟩:=h
 have la:=zP pa
 have nd:=jW.nd
 have i1:atI [v0,V.ref wt,V.int m] 1=some (.ref wt):=rfl
 have i2:atI [v0,V.ref wt,V.int m] 2=some (.int m):=rfl
 refine⟨_,(zB (wM PassesOwn.never rfl (zCb (by rfl) T.b_enumerate (zA (pv 0) zC)) (wB rfl (zO (zL (i:=2) nd rfl (Or.inl rfl)) (zO (zL (i:=3) nd rfl (Or.inl rfl)) vV))) (zI (wJ (zHc (zHa (zQ D_divides (hr.mono (by decide)) (by rfl) (zA (vC vD (pv 1) zE (fun _ _=>rfl)) (zA (zQ D_weighed (hr.mono (by decide)) (by rfl) (zA (pv 3) (zA (vC vD (pv 1) zE (fun _ _=>rfl)) zC))) zC))))) (zI (zU (pv 2))) vQ))) (zI (zU zDh))),?_⟩
 refine⟨_,rfl,r,rfl,⟨_,SqL.of h1⟩,zBa (K:=K) (xs:=as.map V.ref) (fun i σ H2=>zN H H2∧(∃ o1 o2:Option V,σ=[some (.ref r),some (.ref t),o1,o2])∧∀ c,c < i→m∣Rx.dot (steps.getD c []) W) ⟨zN.refl _,⟨none,none,rfl⟩,fun c hc=>absurd hc (Nat.not_lt_zero _)⟩ (fun i σ H2 _ z=>z.1.seq (SqL.of h1)) ?_ ?_⟩
 ·rintro i x σ H2 p hx ⟨sm,⟨o1,o2,rfl⟩,z⟩ hp
  obtain⟨a,row,rfl,ha,hrow,hh⟩:=wX pa hx
  have rl:=lw row (List.mem_of_getElem? hrow)
  have il:i < steps.length:=(List.getElem?_eq_some_iff.mp hrow).1
  have er:=Rx.getR hrow
  have smp:=zG (o:=.tup [.int (i:Nat),.ref a]) (zN.refl H2) hp
  have sma:=sm.trans smp
  refine⟨p,_,rfl,SqT.of zD,rfl,_,_,rfl,_,_,rfl,rfl,?_⟩
  refine⟨_,rfl,t,_,_,_,rfl,rfl,SqT.of (sma _ _ ht),i2,_,rfl,_,rfl,t,_,_,_,rfl,rfl,SqT.of (sma _ _ ht),i1,a,wt,row,W,N,M,rfl,SqL.of (sma _ _ hh),SqL.of (sma _ _ hw),by rw[rl.1,lW],by omega,rl.2,bW,N1,M1,fun H3 sm3=>?_⟩
  refine⟨m,Rx.dot row W,rfl,m0,fun dv=>?_,fun ndv=>?_⟩
  ·refine⟨_,rfl,zEd (by decide) ?_⟩
   refine⟨sma.trans sm3,⟨_,_,rfl⟩,fun c hc=>?_⟩
   rcases Nat.lt_succ_iff_lt_or_eq.mp hc with e | e
   ·exact z c e
   ·rw[e,er];exact dv
  ·refine⟨_,rfl,zEr (by decide) ?_⟩
   exact⟨_,rfl,q1 i H3 (sma.trans sm3) il (by rw[er];exact ndv)⟩
 ·rintro σ H2 ⟨sm,_,z⟩
  rw[List.length_map,la] at z
  exact q2 H2 sm z
def spInn (C:Addr):Sp:=fun vs H Q _=>∃ (x s:Addr)(steps:List (List Int))(fs:List Rx.Fd)(us:List (List Int))(am:List Int)(p:Int)(w N D Cc G B:Nat),vs=[.ref x,.ref s]∧FrAt C H x p w steps fs us∧FrO p w N steps fs us∧Rx.Frm p w steps fs us D Cc∧Nb p fs.length D Cc G B N∧(∀ y∈steps,y.length=w∧Bd N y)∧w≤420∧1000≤p∧H s=some (.lst (am.map V.int))∧am.length=fs.length∧(∀ c,c < fs.length→(Lt.g am c).natAbs≤G) ∧
 ∀ t tt H' tops b,zN H H'→H' t=some (.tup [.str "bar",.ref tt,.int b])→H' tt=some (.lst (((Rx.spr w (Rx.vE fs) tops).map fun x=>x%b).map V.int))→tops.length=fs.length→1≤b→b < 2^N→(∀ i:Nat,i < fs.length→(Ld.S fs.length fun t=>Rx.st steps (Rx.nm fs i) (Rx.cl fs t.toNat)*Rx.fn tops t)=b*Lt.g am i)→Q (.ref t) H'
theorem ok_inner_bar (T:Txt K mg C_Frame t_LEAD_BITS t_FIRST_PRIME):Df P w K mg base 8 "inner_bar" ["frame","amounts"] (spInn C_Frame):=by
 have D_Frame_weights:=zAl (P:=P) (w:=w) (base:=base) T
 refine T.d_inner_bar.ok zDo (fun vs H Q E h=>?_) (fun f cdv A outer s H vs Q E hr h=>?_)
 ·obtain⟨_,_,_,_,_,_,_,_,_,_,_,_,_,rfl,_⟩:=h;rfl
 obtain⟨x,s',steps,fs,us,am,p,w',N,D,Cc,G,B,rfl,fa,fo,fm,nb,lw,w4,p1000,hg,lg,gb,q⟩:=h
 obtain⟨dx,ff,ch,co,ro,un,hx,_⟩:=fa.ex
 have nd:=zDo.nd
 refine⟨_,(zB (zM (i:=2) nd rfl (Or.inr rfl) (pe_mth (pv 0) T.cl_Frame D_Frame_weights (hr.mono (by decide)) (zA (pv 1) zC))) (zI (zU (wE (zA zHb (zA (zZ (cap:=[("told",2)]) (tgs:=["number"])  rfl rfl rfl (by decide +kernel) (by decide +kernel) (vI (by rfl)) (zV rfl vK) (zX ⟨rfl,Or.inl rfl,Or.inl rfl,_,rfl⟩ vH) (vB (by decide)) (vS (vC vD (pv 2) zE (fun _ _=>rfl))) (fun C s H fp=>⟨(zL (i:=1) (show (["told","number"]:List Str).Nodup by decide +kernel) rfl (Or.inl rfl) (Or.inr rfl)),vJ,(zK vR (pv 1) (vC (ix_tupF (K:=K) rfl) (pv 0) zE (fun _ _=>rfl)))⟩)) (zA (vC vD (pv 2) zE (fun _ _=>rfl)) zC))))))),?_⟩
 refine⟨_,rfl,x,dx,_,rfl,hx,zHd _ _ _ _ _ _ _ _,_,rfl,x,s',steps,fs,us,am,p,w',N,D,Cc,G,B,rfl,fa,fo,fm,nb,lw,w4,p1000,hg,lg,gb,fun t tt H1 tops b sm1 ht htt _ lt b1 _ bN _ sol=>?_⟩
 have i0:atI [V.ref tt,V.int b] 0=some (.ref tt):=rfl
 have i1:atI [V.ref tt,V.int b] 1=some (.int b):=rfl
 refine⟨_,rfl,t,_,_,_,rfl,rfl,SqT.of ht,i0,tt,rfl,⟨_,SqL.of htt⟩,?_⟩
 refine v3 (K:=K) (xs:=(Rx.spr w' (Rx.vE fs) tops).map V.int) ((Rx.spr w' (Rx.vE fs) tops).map fun x=>x%b) (by rw[List.length_map,List.length_map]) (by rw[List.length_map,Rx.jR];omega) (SqL.of htt) ?_ ?_
 ·intro i y H2 hy sm R k
  obtain⟨u,rfl,hu⟩:=int_at hy
  exact⟨_,rfl,_,rfl,t,_,_,_,rfl,rfl,SqT.of (sm _ _ ht),i1,_,_,rfl,rfl,(show 0 < b by omega),k _ _ (zN.refl _) (by rw[List.getElem?_map,hu];rfl)⟩
 ·intro D2 H2 sm2 _ hD2
  refine⟨_,rfl,t,_,_,_,rfl,rfl,SqT.of (sm2 _ _ ht),i1,(by show 3≤sizeLine;decide),fun u hu=>?_⟩
  exact q u D2 _ tops b (zG (sm1.trans sm2) hu) zD (zG (zN.refl _) hu _ _ hD2) lt b1 bN sol
abbrev Ot:=Nat×List Int×Int
def OtP (H:Hp)(a:Addr)(x:Ot):Prop:=∃ t tt,H a=some (.tup [.int x.1,.ref t])∧H t=some (.tup [.ref tt,.int x.2.2])∧H tt=some (.lst (x.2.1.map V.int))
def OtAt (H:Hp)(r:Addr)(os:List Ot):Prop:=∃ as:List Addr,H r=some (.lst (as.map V.ref))∧Paired (OtP H) as os
theorem otp_same {H H':Hp}(sm:zN H H'){as:List Addr}{os:List Ot}(h:Paired (OtP H) as os):Paired (OtP H') as os:=wQ h fun _ _ ⟨t,tt,a,b,c⟩=>⟨t,tt,sm _ _ a,sm _ _ b,sm _ _ c⟩
theorem OtAt.same {H H':Hp}(sm:zN H H'){r:Addr}{os:List Ot}(h:OtAt H r os):OtAt H' r os :=
 let ⟨as,h1,h2⟩:=h;⟨as,sm _ _ h1,otp_same sm h2⟩
structure SwBar (w k N:Nat)(steps:List (List Int))(fs:List Rx.Fd)(os:List Ot)(goal W:List Int)(s:Int):Prop where
 len:W.length=w
 s1:1≤s
 sN:s < 2^N
 rng:Rx.In s W
 ch:∀ i,i < fs.length→s∣Rx.dot (steps.getD (Rx.nm fs i) []) W
 ot:∀ o∈os,s∣Rx.dot (steps.getD o.1 []) W
 go:¬ s∣Rx.dot goal W
 k0:0 < fs.length
def spSW (C:Addr):Sp:=fun vs H Q _=>∃ (r s x gm gt:Addr)(os:List Ot)(steps:List (List Int))(fs:List Rx.Fd)(us:List (List Int))(goal gtops:List Int)(gb p:Int)(w N D Cc G B:Nat),vs=[.ref r,.ref s,.ref x,.ref gm]∧OtAt H r os∧wZ H s steps∧FrAt C H x p w steps fs us∧FrO p w N steps fs us∧Rx.Frm p w steps fs us D Cc∧Nb p fs.length D Cc G B N∧D≤G∧(∀ y∈steps,y.length=w∧Bd N y)∧w≤420∧1000≤p∧steps.length≤20000∧fs.length+os.length≤420∧H gm=some (.tup [.ref gt,.int gb])∧H gt=some (.lst (gtops.map V.int))∧goal.length=w∧Rx.Mad steps fs D N (Rx.fn goal) gtops gb∧(∀ o∈os,o.1 < steps.length∧Rx.Mad steps fs D N (Rx.st steps o.1) o.2.1 o.2.2)∧(os.map (fun o=>o.1) ++ Rx.numsOf fs).Nodup ∧
 (∀ t wt H' W s,zN H H'→H' t=some (.tup [.str "bar",.ref wt,.int s])→H' wt=some (.lst (W.map V.int))→SwBar w fs.length N steps fs os goal W s→Q (.ref t) H') ∧
 ∀ t ct H' cnts,zN H H'→H' t=some (.tup [.str "way",.ref ct])→H' ct=some (.lst (cnts.map V.int))→cnts.length=steps.length→Bd 40000 cnts→(∀ i:Nat,i < fs.length→(Ld.S steps.length fun j=>Rx.st steps j.toNat (Rx.cl fs i)*Lt.g cnts j.toNat)=Lt.g goal (Rx.cl fs i))→Q (.ref t) H'
theorem zFy (T:Txt K mg C_Frame t_LEAD_BITS t_FIRST_PRIME):Df P w K mg base 9 "sought_with" ["others","steps","frame","goal_made"] (spSW C_Frame):=by
 have D_joint:=ok_joint (P:=P) (w:=w) (base:=base) T
 have D_whole_counts:=zFk (P:=P) (w:=w) (base:=base) T
 have D_leads_of:=ok_leads_of (P:=P) (w:=w) (base:=base) T
 have D_inner_bar:=ok_inner_bar (P:=P) (w:=w) (base:=base) T
 have D_barring:=ok_barring (P:=P) (w:=w) (base:=base) T
 have D_lessened:=zCe (P:=P) (w:=w) (base:=base) T
 have D_centred:=zGf (P:=P) (w:=w) (base:=base) T
 have D_summed:=ok_summed (P:=P) (w:=w) (base:=base) T
 have D_spread:=ok_spread (P:=P) (w:=w) (base:=base) T
 refine T.d_sought_with.ok zBh (fun vs H Q E h=>?_) (fun f cdv A outer s H vs Q E hr h=>?_)
 ·obtain⟨_,_,_,_,_,_,_,_,_,_,_,_,_,_,_,_,_,_,_,rfl,_⟩:=h;rfl
 obtain⟨r,s',x,gm,gt,os,steps,fs,us,goal,gtops,gb,p,w',N,D,Cc,G,B,rfl,⟨as,h1,pa⟩,hS,fa,fo,fm,nb,DG,lw,w4,p1000,sz,k4,hgm,hgt,lgo,mg',mo,ndp,qb,qw⟩:=h
 obtain⟨sas,hS1,spa⟩:=id hS
 have lsas:=zP spa
 have la:=zP pa
 have nd:=zBh.nd
 have N1:=nb.N1
 have N2:=nb.N2
 have GN:=nb.GN
 have D1:=fm.D1
 have eN:=zCt N
 obtain⟨k,hk⟩:∃ k,k=fs.length:=⟨_,rfl⟩
 have gi0:atI [V.ref gt,V.int gb] 0=some (.ref gt):=rfl
 have gi1:atI [V.ref gt,V.int gb] 1=some (.int gb):=rfl
 have leD:∀ M:Int,M∣(D:Int)→M < 2^N:=fun M h=>by have:=Int.le_of_dvd (by omega) h;omega
 refine⟨_,(zB (zM (i:=4) nd rfl (Or.inr rfl) (vC vD (pv 3) zE (fun _ _=>rfl))) (zB (wM PassesOwn.never rfl (vS (pv 0)) (wB rfl (zO (zL (i:=5) nd rfl (Or.inl rfl)) (zO (zL (i:=6) nd rfl (Or.inl rfl)) vV))) (zI (zM (i:=4) nd rfl (Or.inr rfl) (zQ D_joint (hr.mono (by decide)) (by rfl) (zA (pv 4) (zA (vC vD (pv 6) zE (fun _ _=>rfl)) zC)))))) (zB (v8 (cap:=[("modulus",4)]) (tgs:=["number","made"]) (i:=7) nd rfl (Or.inl rfl) rfl rfl rfl (by decide +kernel) (by decide +kernel) (vI (by rfl)) (zV rfl vK) (zX ⟨rfl,Or.inl rfl,Or.inl rfl,_,rfl⟩ vH) (v5 (by decide) (by decide)) (vS (pv 0)) (fun C s H fp=>⟨(wB rfl (zO (zL (i:=1) (show (["modulus","number","made"]:List Str).Nodup by decide +kernel) rfl (Or.inl rfl) (Or.inr rfl)) (zO (zL (i:=2) (show (["modulus","number","made"]:List Str).Nodup by decide +kernel) rfl (Or.inl rfl) (Or.inr rfl)) vV))),vJ,(zQ D_whole_counts (hr.mono (by decide)) (by rfl) (zA (pv 2) (zA (pv 0) zC)))⟩)) (zB (zM (i:=8) nd rfl (Or.inl rfl) (zQ D_whole_counts (hr.mono (by decide)) (by rfl) (zA (pv 3) (zA (pv 4) zC)))) (zB (zM (i:=9) nd rfl (Or.inl rfl) (zQ D_leads_of (hr.mono (by decide)) (by rfl) (zA (pv 7) (zA (zT zS (by rfl) T.b_len L2.v6 (zA (pv 8) zC)) (zA (pv 4) zC))))) (zB (zM (i:=10) nd rfl (Or.inl rfl) (zK zFb (pv 8) (zK zEx (wV (zA zE zC)) (zT zS (by rfl) T.b_len L2.v6 (zA (pv 7) zC))))) (zB (wM PassesOwn.never rfl (zCb (by rfl) T.b_enumerate (zA (pv 9) zC)) (wB rfl (zO (zL (i:=11) nd rfl (Or.inl rfl)) (zO (zL (i:=12) nd rfl (Or.inl rfl)) vV))) (zB (wJ (vF zGc (zK vR (vC vP (pv 10) (pv 11) (fun _ _=>rfl)) (vC vP (pv 12) (pv 11) (fun _ _=>rfl))) zE (vM _)) (zI (zU (zQ D_inner_bar (hr.mono (by decide)) (by rfl) (zA (pv 2) (zA (zQ D_barring (hr.mono (by decide)) (by rfl) (zA (pv 9) (zA (pv 11) (zA (pv 4) zC)))) zC))))) vQ) (zI (zM (i:=10) nd rfl (Or.inl rfl) (zQ D_lessened (hr.mono (by decide)) (by rfl) (zA (pv 10) (zA (zK vO (vC vP (pv 10) (pv 11) (fun _ _=>rfl)) (vC vP (pv 12) (pv 11) (fun _ _=>rfl))) (zA (pv 12) (zA (pv 4) zC))))))))) (zB (v8 (cap:=[("modulus",4)]) (tgs:=["many"]) (i:=13) nd rfl (Or.inl rfl) rfl rfl rfl (by decide +kernel) (by decide +kernel) (vI (by rfl)) (zV rfl vK) (zX ⟨rfl,Or.inl rfl,Or.inl rfl,_,rfl⟩ vH) (vB (by decide)) (vS (j6 zCz (pv 10) (wU (zT zS (by rfl) T.b_len L2.v6 (zA (pv 8) zC))) po_none)) (fun C s H fp=>⟨(zL (i:=1) (show (["modulus","many"]:List Str).Nodup by decide +kernel) rfl (Or.inl rfl) (Or.inr rfl)),vJ,(zQ D_centred (hr.mono (by decide)) (by rfl) (zA (pe_un zDd (pv 1)) (zA (pv 0) zC)))⟩)) (zB (zM (i:=14) nd rfl (Or.inl rfl) (zQ D_summed (hr.mono (by decide)) (by rfl) (zA (zK zFb (wV (zA (pv 8) zC)) (pv 7)) (zA (zK zFb (wV (zA zE zC)) (zZ (cap:=[]) (tgs:=["many"])  rfl rfl rfl (by decide +kernel) (by decide +kernel) (vI (by rfl)) vK vH (vB (by decide)) (vS (pv 13)) (fun C s H fp=>⟨(zL (i:=0) (show (["many"]:List Str).Nodup by decide +kernel) rfl (Or.inl rfl) (Or.inr rfl)),vJ,(pe_un zDd (pv 0))⟩))) (zA (zT zS (by rfl) T.b_len L2.v6 (zA (pv 8) zC)) zC))))) (zB (zM (i:=15) nd rfl (Or.inl rfl) (zK zFb (pv 13) (zZ (cap:=[("modulus",4)]) (tgs:=["many"])  rfl rfl rfl (by decide +kernel) (by decide +kernel) (vI (by rfl)) (zV rfl vK) (zX ⟨rfl,Or.inl rfl,Or.inl rfl,_,rfl⟩ vH) (vB (by decide)) (vS (pv 14)) (fun C s H fp=>⟨(zL (i:=1) (show (["modulus","many"]:List Str).Nodup by decide +kernel) rfl (Or.inl rfl) (Or.inr rfl)),vJ,(zK vO (pv 1) (pv 0))⟩)))) (zI (zU (wE (zA zHb (zA (zQ D_spread (hr.mono (by decide)) (by rfl) (zA (zT zS (by rfl) T.b_len L2.v6 (zA (pv 1) zC)) (zA (zK zFb (zZ (cap:=[]) (tgs:=["number","made"])  rfl rfl rfl (by decide +kernel) (by decide +kernel) (vI (by rfl)) vK vH (v5 (by decide) (by decide)) (vS (pv 0)) (fun C s H fp=>⟨(wB rfl (zO (zL (i:=0) (show (["number","made"]:List Str).Nodup by decide +kernel) rfl (Or.inl rfl) (Or.inr rfl)) (zO (zL (i:=1) (show (["number","made"]:List Str).Nodup by decide +kernel) rfl (Or.inl rfl) (Or.inr rfl)) vV))),vJ,(pv 0)⟩)) (wL (pv 2) rfl)) (zA (pv 15) zC)))) zC))))))))))))))),?_⟩
 refine⟨_,rfl,gm,_,_,_,rfl,rfl,SqT.of hgm,gi1,?_⟩
 refine⟨_,rfl,r,rfl,⟨_,SqL.of h1⟩,for_list (K:=K) (xs:=as.map V.ref) (fun i σ H2=>H2=H∧∃ (M:Int)(o1 o2:Option V),σ=[some (.ref r),some (.ref s'),some (.ref x),some (.ref gm),some (.int M),o1,o2,none,none,none,none,none,none,none,none,none]∧1≤M∧gb∣M∧M∣(D:Int)∧∀ j o,j < i→os[j]?=some o→o.2.2∣M) ⟨rfl,gb,none,none,rfl,mg'.b1,Int.dvd_refl _,mg'.bD,fun j o hj=>absurd hj (Nat.not_lt_zero _)⟩ (fun i σ H2 _ z=>by rw[z.1];exact SqL.of h1) ?_ ?_⟩
 ·rintro i y σ H2 hy ⟨rfl,M,o1,o2,rfl,M1,gM,MD,al⟩
  obtain⟨a,rfl,ha⟩:=zFa hy
  obtain⟨o,ho,t,tt,ha1,ht,htt⟩:=v9 pa ha
  have m:=(mo o (List.mem_of_getElem? ho)).2
  have i1:atI [V.ref tt,V.int o.2.2] 1=some (.int o.2.2):=rfl
  refine⟨a,_,rfl,SqT.of ha1,rfl,_,_,rfl,_,_,rfl,rfl,?_⟩
  refine⟨_,rfl,_,rfl,t,_,_,_,rfl,rfl,SqT.of ht,i1,M,o.2.2,N,rfl,M1,m.b1,leD M MD,m.bN,N2,fun j j1 d1 d2 alD=>?_⟩
  refine⟨rfl,j,_,_,rfl,j1,Int.dvd_trans gM d1,alD _ MD m.bD,fun j' o' hj' ho'=>?_⟩
  rcases Nat.lt_succ_iff_lt_or_eq.mp hj' with e | e
  ·exact Int.dvd_trans (al j' o' e ho') d1
  ·rw[e,ho] at ho';cases ho';exact d2
 rintro σ H2 ⟨rfl,M,o1,o2,rfl,M1,gM,MD,al⟩
 have MN:=leD M MD
 rw[List.length_map,la] at al
 have alM:∀ o∈os,o.2.2∣M:=fun o ho=>by
  obtain⟨j,hj⟩:=List.getElem?_of_mem ho
  exact al j o (List.getElem?_eq_some_iff.mp hj).1 hj
 -- rows
 obtain⟨rows,hrows⟩:∃ rows:List (List Int),rows=os.map fun o=>Rx.wh o.2.1 (M/o.2.2):=⟨_,rfl⟩
 have lrows:rows.length=os.length:=by rw[hrows,List.length_map]
 refine⟨_,rfl,r,rfl,⟨_,SqL.of h1⟩,?_⟩
 refine zCm (K:=K) (xs:=as.map V.ref) rows (by rw[lrows,List.length_map,la]) (by rw[List.length_map];omega) (SqL.of h1) ?_ ?_
 ·intro i y H3 hy sm3 R kk
  obtain⟨a,rfl,ha⟩:=zFa hy
  obtain⟨o,ho,t,tt,ha1,ht,htt⟩:=v9 pa ha
  have m:=(mo o (List.mem_of_getElem? ho)).2
  refine⟨a,_,rfl,SqT.of (sm3 _ _ ha1),rfl,_,_,rfl,_,_,rfl,rfl,?_⟩
  exact⟨_,rfl,_,rfl,t,tt,o.2.1,o.2.2,M,N,rfl,sm3 _ _ ht,sm3 _ _ htt,by rw[m.len];omega,m.b1,m.bN,by omega,MN,m.bd,N2,fun u H4 sm4 h4=>kk H4 u _ sm4 (by rw[hrows,List.getElem?_map,ho];rfl) h4⟩
 intro ro H3 sm3 _ hro
 -- goal
 obtain⟨gw,hgw⟩:∃ gw:List Int,gw=Rx.wh gtops (M/gb):=⟨_,rfl⟩
 have lgw:gw.length=k:=by rw[hgw,Rx.wh_len,mg'.len,hk]
 refine⟨_,rfl,_,rfl,gm,gt,gtops,gb,M,N,rfl,sm3 _ _ hgm,sm3 _ _ hgt,by rw[mg'.len];omega,mg'.b1,mg'.bN,by omega,MN,mg'.bd,N2,fun gl H4 sm4 hgl=>?_⟩
 rw[← hgw] at hgl
 have sm34:=sm3.trans sm4
 have lrw:∀ row∈rows,row.length=k:=fun row h=>by
  rw[hrows] at h
  obtain⟨o,ho,rfl⟩:=List.mem_map.mp h
  rw[Rx.wh_len,((mo o ho).2).len,hk]
 have qdiv:∀ b:Int,1≤b→0≤M/b∧M/b≤M:=fun b b1=>⟨Int.ediv_nonneg (by omega) (by omega),Int.ediv_le_self b (by omega)⟩
 have whb:∀ (tops:List Int)(b:Int),1≤b→(∀ y∈tops,y.natAbs < 2^N)→Bd (2*N) (Rx.wh tops (M/b)):=fun tops b b1 bt y hy=>by
  unfold Rx.wh at hy
  obtain⟨z,hz,rfl⟩:=List.mem_map.mp hy
  have a:=bt z hz
  have q:=qdiv b b1
  rw[Int.natAbs_mul,show 2*N=N+N by omega,Nat.pow_add]
  have n2:(M/b).natAbs < 2^N:=by omega
  have:=Nat.mul_le_mul (Nat.le_of_lt a) (show (M/b).natAbs≤2^N by omega)
  rcases Nat.eq_zero_or_pos (M/b).natAbs with c | c
  ·rw[c,Nat.mul_zero];exact Nat.mul_pos (Nat.pow_pos (by decide)) (Nat.pow_pos (by decide))
  ·exact Nat.lt_of_lt_of_le (Nat.mul_lt_mul_of_pos_right a c) (Nat.mul_le_mul_left _ (by omega))
 have gwb:Bd (2*N) gw:=by rw[hgw];exact whb _ _ mg'.b1 mg'.bd
 have rwb:∀ row∈rows,row.length=k∧Bd (2*N) row:=fun row h=>⟨lrw row h,by
  rw[hrows] at h
  obtain⟨o,ho,rfl⟩:=List.mem_map.mp h
  exact whb _ _ ((mo o ho).2).b1 ((mo o ho).2).bd⟩
 refine⟨_,rfl,_,rfl,gl,_,rfl,.inl (SqL.of hgl),_,rfl,ro,rows,k,os.length,N,M,(by rw[List.length_map,lgw];rfl),hro.same sm4,lrows,lrw,by omega,M1,MN,by omega,N2,fun tl H5 ls sm5 hls L=>?_⟩
 have sm35:=sm34.trans sm5
 have hgl5:=sm5 _ _ hgl
 obtain⟨ras,hr1,hr2⟩:=(hro.same sm4).same sm5
 have lras:=zP hr2
 have lsl:=L.len
 -- left
 refine⟨_,rfl,(by show 1≤sizeLine;decide),fun lo hlo=>⟨_,rfl,ro,_,rfl,.inl (SqL.of (zG (zN.refl _) hlo _ _ hr1)),?_⟩⟩
 rw[List.length_map,lras,lrows]
 refine⟨lo,_,_,rfl,rfl,zD,by omega,by omega,(by show 1*_≤_;exact zAu (by omega)),fun pz hpz=>?_⟩
 rw[rep0]
 have sm6:=zG (o:=.lst ((List.replicate os.length (0:Int)).map V.int)) (zG (o:=.lst [V.int 0]) (zN.refl H5) hlo) hpz
 have hpz6:upd (upd H5 lo (.lst [V.int 0])) pz (.lst ((List.replicate os.length (0:Int)).map V.int)) pz=some (.lst ((List.replicate os.length (0:Int)).map V.int)):=zD
 generalize upd (upd H5 lo (.lst [V.int 0])) pz (.lst ((List.replicate os.length (0:Int)).map V.int))=H6 at sm6 hpz6 ⊢
 refine⟨gl,pz,_,_,rfl,rfl,sm6 _ _ hgl5,hpz6,by rw[List.length_map,List.length_map,List.length_replicate,lgw];exact zAu (by omega),fun lf hlf=>?_⟩
 have sm7:=zG (o:=.lst (gw.map V.int ++ (List.replicate os.length (0:Int)).map V.int)) (zN.refl H6) hlf
 have hlf7:upd H6 lf (.lst (gw.map V.int ++ (List.replicate os.length (0:Int)).map V.int)) lf=some (.lst ((gw ++ List.replicate os.length 0).map V.int)):=by rw[zD,List.map_append]
 generalize upd H6 lf (.lst (gw.map V.int ++ (List.replicate os.length (0:Int)).map V.int))=H7 at sm7 hlf7 ⊢
 have sm37:=(sm35.trans sm6).trans sm7
 have hls7:=(hls.same sm6).same sm7
 obtain⟨las,hl1,hl2⟩:=id hls7
 have llas:=zP hl2
 have b0:Bd (2*N) (gw ++ List.replicate os.length 0):=fun y hy=>by
  rcases List.mem_append.mp hy with c | c
  ·exact gwb y c
  ·rw[(List.mem_replicate.mp c).2];exact Nat.pow_pos (by decide)
 refine⟨_,rfl,tl,rfl,⟨_,SqL.of hl1⟩,zBa (K:=K) (xs:=las.map V.ref) (fun c σ H8=>zN H7 H8∧∃ (lt:Addr)(left:List Int)(o3 o4:Option V),σ=[some (.ref r),some (.ref s'),some (.ref x),some (.ref gm),some (.int M),o1,o2,some (.ref ro),some (.ref gl),some (.ref tl),some (.ref lt),o3,o4,none,none,none]∧H8 lt=some (.lst (left.map V.int))∧Rx.Gl M k os.length rows gw ls c left∧Bd (2*N) left) ⟨zN.refl _,lf,_,none,none,rfl,hlf7,.start lgw ls,b0⟩ (fun i σ H8 _ z=>z.1.seq (SqL.of hl1)) ?_ ?_⟩
 ·rintro c y σ H8 pp hx ⟨sm8,lt,left,o3,o4,rfl,hlt,gl',lb⟩ hpp
  obtain⟨a,l,rfl,ha,hlead,hh⟩:=wX hl2 hx
  have cl:c < k:=by rw[← lsl];exact (List.getElem?_eq_some_iff.mp hlead).1
  have t:=L.tri.at hlead
  rw[Nat.zero_add] at t
  have lup:=up_bd MN (L.up l (List.mem_of_getElem? hlead))
  have smp:=zG (o:=.tup [.int (c:Nat),.ref a]) (zN.refl H8) hpp
  have sm8p:=sm8.trans smp
  have hlt':=smp _ _ hlt
  have hh':=sm8p _ _ hh
  have llf:left.length=k+os.length:=gl'.len
  have cg:atI (left.map V.int) (c:Int)=some (.int (Lt.g left c)):=v4 (by rw[List.getElem?_map,Rx.wI (by omega)];rfl)
  have cl':atI (l.map V.int) (c:Int)=some (.int (Lt.g l c)):=v4 (by rw[List.getElem?_map,Rx.wI (by rw[t.1];omega)];rfl)
  have l1:=t.2.2.1
  have lN:=lup _ (Rx.j8 (l:=l) (i:=c) (by rw[t.1];omega))
  refine⟨pp,_,rfl,SqT.of zD,rfl,_,_,rfl,_,_,rfl,rfl,?_⟩
  refine⟨_,rfl,_,rfl,lt,_,_,_,rfl,rfl,SqL.of hlt',cg,_,rfl,_,rfl,a,_,_,_,rfl,rfl,SqL.of hh',cl',_,_,rfl,rfl,(show 0 < Lt.g l c by omega),rfl,_,rfl,zCs (fun cc=>?_) (fun cc=>?_)⟩
  ·have nz:=vne cc
   have smB:=(sm37.trans sm8).trans smp
   refine⟨_,rfl,_,rfl,_,rfl,_,rfl,tl,rows,ls,k,os.length,os.length,c,N,M,rfl,(hls7.same sm8).same smp,L,cl,by omega,M1,MN,by omega,N2,fun ta H9 am sm9 _ ham lam uam bar=>?_⟩
   have smC:=smB.trans sm9
   have amG:∀ j,j < fs.length→(Lt.g am j).natAbs≤G:=fun j hj=>by
    have:=uam _ (Rx.j8 (l:=am) (i:=j) (by omega))
    have:=Int.le_of_dvd (by omega) MD
    omega
   refine⟨x,ta,steps,fs,us,am,p,w',N,D,Cc,G,B,rfl,fa.same smC,fo,fm,nb,lw,w4,p1000,ham,by rw[lam,hk],amG,fun t wt H10 tops b sm10 ht10 hwt lt10 b1 bN sol=>?_⟩
   refine qb t wt H10 _ b (smC.trans sm10) ht10 hwt ?_
   have kill:Lt.Kill M k (Rx.fn am) ls:=fun l' hl'=>by
    obtain⟨j,hj⟩:=List.getElem?_of_mem hl'
    exact bar.kl j l' (Nat.zero_le _) hj
   have main:∀ (v:List Int)(T:List Int),v.length=w'→T.length=k→(∀ i:Nat,i < k→(Ld.S k fun j=>Rx.st steps (Rx.nm fs j.toNat) (Rx.cl fs i)*Rx.fn T j)=M*Rx.fn v (Rx.cl fs i))→(b∣Rx.dot v ((Rx.spr w' (Rx.vE fs) tops).map fun y=>y%b)↔M∣Lt.dt k T (Rx.fn am)):=fun v T lv lT hT=>by
    have d1:=Rx.dot_mod (s:=b) lv (Rx.jR w' (Rx.vE fs) tops)
    rw[Rx.dot_spr fm.hp fo.crn lv lt10] at d1
    refine (Lt.jI d1).trans ?_
    have e:=Rx.bar_eq (k:=k) (U:=fun i t=>Rx.st steps (Rx.nm fs i) (Rx.cl fs t)) (x:=Rx.fn tops) (am:=Rx.fn am) (T:=Rx.fn T) (v:=fun t=>Rx.fn v (Rx.cl fs t.toNat)) (s:=b) (M:=M) (fun i hi=>by
     have:=sol i (by omega)
     rw[← hk] at this
     unfold Rx.fn at this ⊢
     rw[Int.toNat_natCast];exact this) (fun t ht=>(by rw[Int.toNat_natCast];exact hT t ht))
    rw[← hk]
    refine (Rx.bar_iff b1 M1 e).trans ?_
    unfold Lt.dt Rx.fn
    exact Iff.rfl
   refine⟨by rw[List.length_map,Rx.jR],b1,bN,Rx.In.mod (by omega) _ fun y=>y,fun i hi=>?_,fun o ho=>?_,fun dg=>?_,?_⟩
   ·have nn:=fo.crn.numn hi
    have lv:=(lw _ (Rx.vZ (rows:=steps) nn)).1
    refine (main _ (Rx.hun k i M) lv (Rx.zAa ..) fun c' hc'=>?_).mpr ?_
    ·have:(Ld.S k fun j=>Rx.st steps (Rx.nm fs j.toNat) (Rx.cl fs c')*Rx.fn (Rx.hun k i M) j)=Ld.S k fun j=>M*Rx.st steps (Rx.nm fs j.toNat) (Rx.cl fs c')*if j=(i:Int) then 1 else 0:=Ld.zH fun j hj=>by
      unfold Rx.fn
      rw[Int.toNat_natCast,Rx.zBu (by omega)]
      by_cases z:j=i
      ·rw[if_pos z,if_pos (by omega)];grind
      ·rw[if_neg z,if_neg (by omega)];grind
     rw[this,Mx.wC (F:=fun j=>M*Rx.st steps (Rx.nm fs j.toNat) (Rx.cl fs c')) (by omega),Int.toNat_natCast];rfl
    ·unfold Lt.dt
     refine Mx.S_dvd fun j hj=>?_
     rw[Int.toNat_natCast,Rx.zBu (by omega)]
     split
     ·exact Int.dvd_mul_right ..
     ·rw[Int.zero_mul];exact Int.dvd_zero _
   ·have m:=mo o ho
    have lv:=(lw _ (Rx.vZ (rows:=steps) m.1)).1
    refine (main _ (Rx.wh o.2.1 (M/o.2.2)) lv (by rw[Rx.wh_len,m.2.len,hk]) fun c' hc'=>?_).mpr ?_
    ·rw[hk]
     refine Rx.wh_eq (U:=fun j t=>Rx.st steps (Rx.nm fs j) (Rx.cl fs t)) m.2.len m.2.b1 (alM o ho) ?_
     rw[m.2.eq c' (by omega)];rfl
    ·obtain⟨j,hj⟩:=List.getElem?_of_mem ho
     have:=L.kill _ kill j (List.getElem?_eq_some_iff.mp hj).1
     rwa [Rx.getR (row:=Rx.wh o.2.1 (M/o.2.2)) (by rw[hrows,List.getElem?_map,hj];rfl)] at this
   ·have d2:=(main goal gw lgo lgw fun c' hc'=>by
     rw[hgw,hk]
     refine Rx.wh_eq (U:=fun j t=>Rx.st steps (Rx.nm fs j) (Rx.cl fs t)) mg'.len mg'.b1 gM ?_
     exact mg'.eq c' (by omega)).mp dg
    have d3:=gl'.dd _ kill
    refine bar.not M1 L.tri cl hlead gl'.zero (fun z=>nz ?_) ((Lt.jI d3).mpr d2)
    exact Int.emod_eq_zero_of_dvd z
   ·omega
  ·have ze:=nvne cc
   have dv:Lt.g l c∣Lt.g left c:=Int.dvd_of_emod_eq_zero ze
   have lcb:=lb _ (Rx.j8 (l:=left) (i:=c) (by omega))
   have qb':(Lt.g left c/Lt.g l c).natAbs < 2^(2*N):=by
    have e:=Int.ediv_mul_cancel dv
    have n:(Lt.g left c/Lt.g l c).natAbs*(Lt.g l c).natAbs=(Lt.g left c).natAbs:=by rw[← Int.natAbs_mul,e]
    have:=Nat.mul_le_mul_left (Lt.g left c/Lt.g l c).natAbs (show 1≤(Lt.g l c).natAbs by omega)
    omega
   refine⟨_,rfl,_,rfl,_,rfl,lt,_,_,_,rfl,rfl,SqL.of hlt',cg,_,rfl,_,rfl,a,_,_,_,rfl,rfl,SqL.of hh',cl',_,_,rfl,rfl,div9 (by omega) lN N2,_,rfl,_,rfl,lt,a,left,l,_,M,2*N,N,rfl,hlt',hh',by rw[llf,t.1],by omega,by omega,qb',lup,by omega,by omega,fun t9 H9 sm9 h9=>?_⟩
   refine⟨sm8p.trans sm9,t9,_,_,_,rfl,h9,gl'.step M1 L hlead dv,?_⟩
   have M2:M < 2^(2*N):=by
    have:=Nat.pow_le_pow_right (n:=2) (by decide) (show N≤2*N by omega)
    have e2:=zCt (2*N)
    omega
   exact les_bd (by omega) M2 lb
 rintro σ H8 ⟨sm8,lt,left,o3,o4,rfl,hlt,gl',lb⟩
 rw[List.length_map,llas,lsl] at gl'
 have sm38:=sm37.trans sm8
 have hgl8:=sm8 _ _ (sm7 _ _ (sm6 _ _ hgl5))
 have llf:left.length=k+os.length:=gl'.len
 -- taken
 refine⟨_,rfl,_,rfl,gl,_,rfl,.inl (SqL.of hgl8),_,rfl,lt,_,rfl,SqL.of hlt,fun cu hcu=>?_⟩
 rw[List.length_map,lgw,cut_from]
 have sm9:=zG (o:=.lst ((left.drop k).map V.int)) (zN.refl H8) hcu
 have hcu9:upd H8 cu (.lst ((left.drop k).map V.int)) cu=some (.lst ((left.drop k).map V.int)):=zD
 generalize upd H8 cu (.lst ((left.drop k).map V.int))=H9 at sm9 hcu9 ⊢
 obtain⟨tk,htk⟩:∃ tk:List Int,tk=(left.drop k).map fun y=>Rx.cn (-y) M:=⟨_,rfl⟩
 have ltk:tk.length=os.length:=by rw[htk,List.length_map,List.length_drop,llf];omega
 have tkb:Bd N tk:=fun y hy=>by
  rw[htk] at hy
  obtain⟨z,_,rfl⟩:=List.mem_map.mp hy
  have:=Rx.cn_bd (n:=-z) (show 0 < M by omega)
  omega
 refine⟨cu,rfl,⟨_,SqL.of hcu9⟩,?_⟩
 refine v3 (K:=K) (xs:=(left.drop k).map V.int) tk (by rw[ltk,List.length_map,List.length_drop,llf];omega) (by rw[List.length_map,List.length_drop];omega) (SqL.of hcu9) ?_ ?_
 ·intro i y H10 hy sm10 R kk
  obtain⟨u,rfl,hu⟩:=int_at hy
  exact⟨_,rfl,_,rfl,_,rfl,-u,M,rfl,by omega,kk _ _ (zN.refl _) (by rw[htk,List.getElem?_map,hu];rfl)⟩
 intro tka H10 sm10 _ htka
 have sm310:=(sm38.trans sm9).trans sm10
 have hgl10:=sm10 _ _ (sm9 _ _ hgl8)
 have hr10:=sm10 _ _ (sm9 _ _ (sm8 _ _ (sm7 _ _ (sm6 _ _ hr1))))
 have hr210:=vN ((((sm6.trans sm7).trans sm8).trans sm9).trans sm10) hr2
 -- spared
 refine⟨_,rfl,(by show 1≤sizeLine;decide),fun l1 hl1'=>⟨_,rfl,l1,ro,_,_,rfl,rfl,zD,zG (zN.refl _) hl1' _ _ hr10,by rw[List.length_map,lras,lrows];exact zAu (by show 1+_≤_;omega),fun l2 hl2'=>?_⟩⟩
 have sm11:=zG (o:=.lst ([V.ref gl] ++ ras.map V.ref)) (zG (o:=.lst [V.ref gl]) (zN.refl H10) hl1') hl2'
 have hl211:upd (upd H10 l1 (.lst [V.ref gl])) l2 (.lst ([V.ref gl] ++ ras.map V.ref)) l2=some (.lst ((gl::ras).map V.ref)):=zD
 generalize upd (upd H10 l1 (.lst [V.ref gl])) l2 (.lst ([V.ref gl] ++ ras.map V.ref))=H11 at sm11 hl211 ⊢
 refine⟨(by show 1≤sizeLine;decide),fun l3 hl3'=>⟨_,rfl,tka,rfl,⟨_,SqL.of (zG (zN.refl _) hl3' _ _ (sm11 _ _ htka))⟩,?_⟩⟩
 have sm12:=zG (o:=.lst [V.int 1]) (zN.refl H11) hl3'
 have hl312:upd H11 l3 (.lst [V.int 1]) l3=some (.lst [V.int 1]):=zD
 generalize upd H11 l3 (.lst [V.int 1])=H12 at sm12 hl312 ⊢
 refine v3 (K:=K) (xs:=tk.map V.int) (tk.map fun y=>-y) (by rw[List.length_map,List.length_map]) (by rw[List.length_map];omega) (SqL.of (sm12 _ _ (sm11 _ _ htka))) ?_ ?_
 ·intro i y H13 hy sm13 R kk
  obtain⟨u,rfl,hu⟩:=int_at hy
  exact⟨_,rfl,_,rfl,kk _ _ (zN.refl _) (by rw[List.getElem?_map,hu];rfl)⟩
 intro ng H13 sm13 _ hng
 refine⟨l3,ng,_,_,rfl,rfl,sm13 _ _ hl312,hng,by rw[List.length_map,List.length_map,ltk];exact zAu (by show 1+_≤_;omega),fun l4 hl4'=>?_⟩
 have sm14:=zG (o:=.lst ([V.int 1] ++ (tk.map fun y=>-y).map V.int)) (zN.refl H13) hl4'
 have hl414:upd H13 l4 (.lst ([V.int 1] ++ (tk.map fun y=>-y).map V.int)) l4=some (.lst ((1::tk.map fun y=>-y).map V.int)):=zD
 generalize upd H13 l4 (.lst ([V.int 1] ++ (tk.map fun y=>-y).map V.int))=H14 at sm14 hl414 ⊢
 have sm1014:=((sm11.trans sm12).trans sm13).trans sm14
 have rs14:wZ H14 l2 (gw::rows):=⟨gl::ras,sm14 _ _ (sm13 _ _ (sm12 _ _ hl211)),.cons (sm1014 _ _ hgl10) (vN sm1014 hr210)⟩
 have bc:Bd (N+1) (1::tk.map fun y=>-y):=fun y hy=>by
  rcases List.mem_cons.mp hy with e | e
  ·rw[e];exact Nat.one_lt_two_pow (by omega)
  ·obtain⟨z,hz,rfl⟩:=List.mem_map.mp e
   have:=tkb z hz
   rw[Int.natAbs_neg,Nat.pow_succ];omega
 refine⟨_,rfl,gl,_,rfl,.inl (SqL.of (sm1014 _ _ hgl10)),l2,l4,gw::rows,1::tk.map (fun y=>-y),k,os.length+1,2*N,N+1,(by rw[List.length_map,lgw];rfl),rs14,hl414,by rw[List.length_cons,lrows],by rw[List.length_cons,List.length_map,ltk],fun y hy=>?_,bc,by omega,by omega,by omega,by omega,fun sp H15 spared sm15 hsp lsp eqs=>?_⟩
 ·rcases List.mem_cons.mp hy with e | e
  ·rw[e];exact⟨lgw,gwb⟩
  ·exact rwb y e
 have eqs':∀ c:Nat,c < k→Lt.g spared c=Lt.g gw c-Ld.S os.length fun j=>Rx.fn tk j*Rx.rwf rows j.toNat c:=fun c hc=>by rw[eqs c hc,Rx.sum_cons ltk]
 have spd:∀ c:Nat,c < k→M∣Lt.g spared c:=fun c hc=>by
  rw[eqs' c hc]
  have:=gl'.end M1 (tk:=fun j=>Rx.fn tk j) (fun j hj=>by
   unfold Rx.fn
   try dsimp only
   rw[Int.toNat_natCast]
   have e:Lt.g tk j=Rx.cn (-(Lt.g left (k+j))) M:=by
    rw[htk,Rx.zEe (by rw[List.length_drop];omega),Rx.g_drop]
   rw[e]
   have:=Rx.cn_dvd (-(Lt.g left (k+j))) M
   rwa [Int.sub_neg] at this) c hc
  have e2:(Ld.S os.length fun j=>Rx.fn tk (j.toNat:Int)*Rx.rwf rows j.toNat c)=Ld.S os.length fun j=>Rx.fn tk j*Rx.rwf rows j.toNat c:=Ld.zH fun j _=>by rw[Int.toNat_natCast]
  rw[e2] at this
  exact this
 have spb:Bd (3*N+12) spared:=fun y hy=>by
  obtain⟨c,hc,rfl⟩:=Rx.zGa hy
  rw[eqs c (by omega)]
  have b:=Sg.S_bd (m:=os.length+1) (F:=fun j=>Lt.g (1::tk.map fun y=>-y) j.toNat*Lt.g ((gw::rows).getD j.toNat []) c) (B:=2^(N+1)*2^(2*N)) fun j hj=>by
   show (Lt.g (1::tk.map fun y=>-y) (j:Int).toNat*Lt.g ((gw::rows).getD (j:Int).toNat []) c).natAbs≤_
   rw[Int.toNat_natCast,Int.natAbs_mul]
   refine Nat.mul_le_mul (Nat.le_of_lt (bc _ (Rx.j8 (by rw[List.length_cons,List.length_map,ltk];omega)))) ?_
   have rm:(gw::rows).getD j []∈gw::rows:=Rx.vZ (by rw[List.length_cons,lrows];omega)
   have rl:((gw::rows).getD j []).length=k∧Bd (2*N) ((gw::rows).getD j []):=by
    rcases List.mem_cons.mp rm with e | e
    ·rw[e];exact⟨lgw,gwb⟩
    ·exact rwb _ e
   exact Nat.le_of_lt (rl.2 _ (Rx.j8 (by omega)))
  have e3:2^(3*N+12)=2048*(2^(N+1)*2^(2*N)):=by rw[← Nat.pow_add,show 3*N+12=11+(N+1+2*N) by omega,Nat.pow_add]
  have p3:0 < 2^(N+1)*2^(2*N):=Nat.mul_pos (Nat.pow_pos (by decide)) (Nat.pow_pos (by decide))
  generalize 2^(N+1)*2^(2*N)=Z at b e3 p3
  have:(os.length+1)*Z≤421*Z:=Nat.mul_le_mul_right _ (by omega)
  rw[e3]
  omega
 -- counts
 obtain⟨sq,hsq⟩:∃ sq:List Int,sq=spared.map fun y=>y/M:=⟨_,rfl⟩
 have lsq:sq.length=k:=by rw[hsq,List.length_map,lsp]
 have hta15:=sm15 _ _ (sm1014 _ _ htka)
 refine⟨_,rfl,_,rfl,sp,rfl,⟨_,SqL.of hsp⟩,?_⟩
 refine v3 (K:=K) (xs:=spared.map V.int) sq (by rw[lsq,List.length_map,lsp]) (by rw[List.length_map];omega) (SqL.of hsp) ?_ ?_
 ·intro i y H16 hy sm16 R kk
  obtain⟨u,rfl,hu⟩:=int_at hy
  exact⟨_,rfl,_,rfl,_,_,rfl,rfl,div9 (by omega) (show M.natAbs < 2^N by omega) N2,kk _ _ (zN.refl _) (by rw[hsq,List.getElem?_map,hu];rfl)⟩
 intro sqa H16 sm16 _ hsqa
 refine⟨tka,sqa,_,_,rfl,rfl,sm16 _ _ hta15,hsqa,by rw[List.length_map,List.length_map,ltk,lsq];exact zAu (by omega),fun ca hca=>?_⟩
 have sm17:=zG (o:=.lst (tk.map V.int ++ sq.map V.int)) (zN.refl H16) hca
 have hca17:upd H16 ca (.lst (tk.map V.int ++ sq.map V.int)) ca=some (.lst ((tk ++ sq).map V.int)):=by rw[zD,List.map_append]
 generalize upd H16 ca (.lst (tk.map V.int ++ sq.map V.int))=H17 at sm17 hca17 ⊢
 have sm017:=(((sm310.trans sm1014).trans sm15).trans sm16).trans sm17
 -- the way
 obtain⟨dx,ff,ch,co,ro',un,hx,hf,hch,_⟩:=(fa.same sm017).ex
 have h117:=sm017 _ _ h1
 refine⟨_,rfl,s',_,rfl,.inl (SqL.of (sm017 _ _ hS1)),_,rfl,r,rfl,⟨_,SqL.of h117⟩,?_⟩
 refine v3 (K:=K) (xs:=as.map V.ref) (ni (os.map fun o=>o.1)) (by rw[List.length_map,List.length_map,List.length_map,la]) (by rw[List.length_map];omega) (SqL.of h117) ?_ ?_
 ·intro i y H18 hy sm18 R kk
  obtain⟨a,rfl,ha⟩:=zFa hy
  obtain⟨o,ho,t,tt,ha1,ht,htt⟩:=v9 pa ha
  exact⟨a,_,rfl,SqT.of (sm18 _ _ (sm017 _ _ ha1)),rfl,_,_,rfl,_,_,rfl,rfl,_,rfl,kk _ _ (zN.refl _) (by rw[List.getElem?_map,List.getElem?_map,ho];rfl)⟩
 intro na H18 sm18 _ hna
 refine⟨_,rfl,x,C_Frame,dx,_,_,rfl,sm18 _ _ hx,T.cl_Frame,T.na_chosen,F8_chosen _ _ _ _ _ _ _ _,na,ch,_,_,rfl,rfl,hna,sm18 _ _ hch,by rw[List.length_map,List.length_map,List.length_map,List.length_map,List.length_map];unfold Rx.numsOf;rw[List.length_map];exact zAu (by omega),fun pa' hpa'=>?_⟩
 have sm19:=zG (o:=.lst ((ni (os.map fun o=>o.1)).map V.int ++ (ni (Rx.numsOf fs)).map V.int)) (zN.refl H18) hpa'
 have hpa19:upd H18 pa' (.lst ((ni (os.map fun o=>o.1)).map V.int ++ (ni (Rx.numsOf fs)).map V.int)) pa'=some (.lst ((ni (os.map (fun o=>o.1) ++ Rx.numsOf fs)).map V.int)):=by rw[zD];simp only [ni,List.map_append]
 generalize upd H18 pa' (.lst ((ni (os.map fun o=>o.1)).map V.int ++ (ni (Rx.numsOf fs)).map V.int))=H19 at sm19 hpa19 ⊢
 have lnf:(Rx.numsOf fs).length=k:=by unfold Rx.numsOf;rw[List.length_map,hk]
 have plt:∀ n∈os.map (fun o=>o.1) ++ Rx.numsOf fs,n < steps.length:=fun n hn=>by
  rcases List.mem_append.mp hn with c | c
  ·obtain⟨o,ho,rfl⟩:=List.mem_map.mp c
   exact (mo o ho).1
  ·exact Rx.nums_lt fo.crn n c
 refine⟨_,rfl,steps.length,pa',ca,os.map (fun o=>o.1) ++ Rx.numsOf fs,tk ++ sq,(by rw[List.length_map,lsas];rfl),hpa19,sm19 _ _ (sm18 _ _ hca17),by rw[List.length_append,List.length_append,List.length_map,ltk,lsq,lnf],plt,sz,fun cn H20 sm20 _ hcn=>?_⟩
 refine⟨(by show 2≤sizeLine;decide),fun tw htw=>?_⟩
 refine qw tw cn _ _ (zG (((sm017.trans sm18).trans sm19).trans sm20) htw) zD (zG (zN.refl _) htw _ _ hcn) (Rx.jR ..) (fun y hy=>?_) fun i hi=>?_
 ·rcases Rx.spr_mem hy with e | e
  ·rw[e];exact Nat.pow_pos (by decide)
  ·rcases List.mem_append.mp e with c | c
   ·exact zBy tkb (by omega) y c
   ·rw[hsq] at c
    obtain⟨z,hz,rfl⟩:=List.mem_map.mp c
    obtain⟨j,hj,rfl⟩:=Rx.zGa hz
    have e:=Int.ediv_mul_cancel (spd j (by omega))
    have n:(Lt.g spared j/M).natAbs*M.natAbs=(Lt.g spared j).natAbs:=by rw[← Int.natAbs_mul,e]
    have:=Nat.mul_le_mul_left (Lt.g spared j/M).natAbs (show 1≤M.natAbs by omega)
    have b:=spb _ hz
    exact Nat.lt_of_lt_of_le (show (Lt.g spared j/M).natAbs < 2^(3*N+12) by omega) (Nat.pow_le_pow_right (by decide) (by omega))
 ·have e:=Rx.S_two (n:=steps.length) (F:=fun j=>Rx.st steps j.toNat (Rx.cl fs i)) (os:=os.map fun o=>o.1) (cs:=Rx.numsOf fs) (by rw[List.length_map]) lnf ltk lsq ndp plt
  rw[e]
  have we:=Rx.way_eq (k:=k) (r:=os.length) (U:=fun j t=>Rx.st steps (Rx.nm fs j) (Rx.cl fs t)) (M:=M) (gv:=Rx.fn goal (Rx.cl fs i)) (t:=i) (goalw:=Rx.fn gw) (R:=Rx.rwf rows) (sv:=fun j=>Rx.st steps ((os.map fun o=>o.1).getD j 0) (Rx.cl fs i)) (tk:=Rx.fn tk) (sp:=Rx.fn sq) M1 (by
    rw[hgw,hk]
    exact Rx.wh_eq (U:=fun j t=>Rx.st steps (Rx.nm fs j) (Rx.cl fs t)) mg'.len mg'.b1 gM (mg'.eq i hi)) (fun j hj=>by
    obtain⟨o,ho⟩:∃ o,os[j]?=some o:=⟨_,List.getElem?_eq_getElem hj⟩
    have m:=mo o (List.mem_of_getElem? ho)
    have er:rows.getD j []=Rx.wh o.2.1 (M/o.2.2):=Rx.getR (by rw[hrows,List.getElem?_map,ho];rfl)
    have en:(os.map fun o=>o.1).getD j 0=o.1:=by rw[List.getD_eq_getElem?_getD,List.getElem?_map,ho];rfl
    have a:(Ld.S k fun i'=>Rx.st steps (Rx.nm fs i'.toNat) (Rx.cl fs i)*Rx.rwf rows j i')=Ld.S k fun i'=>Rx.st steps (Rx.nm fs i'.toNat) (Rx.cl fs i)*Rx.fn (Rx.wh o.2.1 (M/o.2.2)) i':=Ld.zH fun i' _=>by
     unfold Rx.rwf Rx.fn
     rw[er]
    try dsimp only
    rw[a,en,hk]
    exact Rx.wh_eq (U:=fun j t=>Rx.st steps (Rx.nm fs j) (Rx.cl fs t)) m.2.len m.2.b1 (alM o (List.mem_of_getElem? ho)) (m.2.eq i hi)) (fun c hc=>by
    have e1:Rx.fn sq c=Lt.g spared c/M:=by
     unfold Rx.fn
     rw[Int.toNat_natCast,hsq,Rx.zEe (by omega)]
    have e2:Rx.fn gw c=Lt.g gw c:=by unfold Rx.fn;rw[Int.toNat_natCast]
    rw[e1,e2,Int.mul_ediv_cancel' (spd c hc),eqs' c hc])
  have f1:Rx.fn goal (Rx.cl fs i)=Lt.g goal (Rx.cl fs i):=by unfold Rx.fn;rw[Int.toNat_natCast]
  rw[← f1,← we]
  congr 1
  ·refine Ld.zH fun j hj=>?_
   unfold Rx.fn
   try dsimp only
   rw[Int.toNat_natCast,Int.toNat_natCast,Int.mul_comm]
  ·refine Ld.zH fun j hj=>?_
   unfold Rx.fn
   try dsimp only
   rw[Int.toNat_natCast,Int.toNat_natCast,Int.mul_comm,List.getD_eq_getElem?_getD,Rx.nums_at (by omega)];rfl
theorem ot_push {H:Hp}{O a t tt:Addr}{as:List Addr}{os:List Ot}{o:Ot}(hO:H O=some (.lst (as.map V.ref)))(pa:Paired (OtP H) as os)(ne:∀ o∈os,o.2.1≠[])(ha:H a=some (.tup [.int o.1,.ref t]))(ht:H t=some (.tup [.ref tt,.int o.2.2]))(htt:H tt=some (.lst (o.2.1.map V.int)))(nl:o.2.1≠[]):OtAt (upd H O (.lst (as.map V.ref ++ [.ref a]))) O (os ++ [o]):=by
 have ne1:∀ (b:Addr)(x:List Int),x≠[]→H b=some (.lst (x.map V.int))→b≠O:=fun b x hx hb=>zCf hb hO fun z=>by
  injection z with z
  cases x with
  | nil=>exact hx rfl
  | cons y ys=>cases as with
   | nil=>cases z
   | cons a0 as0=>injection z with z1;cases z1
 have keep:∀ (a:Addr)(x:Ot),x.2.1≠[]→OtP H a x→OtP (upd H O (.lst (as.map V.ref ++ [.ref a]))) a x→True:=fun _ _ _ _ _=>trivial
 have k2:∀ {o':HO}(a:Addr)(x:Ot),x.2.1≠[]→OtP H a x→OtP (upd H O o') a x:=fun a x hx ⟨t,tt,u,v,y⟩ =>
  ⟨t,tt,(vA (zCf u hO (by intro z;cases z))).trans u,(vA (zCf v hO (by intro z;cases z))).trans v,(vA (ne1 _ _ hx y)).trans y⟩
 have go:∀ {as':List Addr}{os':List Ot}{o':HO},(∀ o∈os',o.2.1≠[])→Paired (OtP H) as' os'→Paired (OtP (upd H O o')) as' os':=fun {as' os' o'} hn p=>by
  induction p with
  | nil=>exact .nil
  | cons h _ ih=>exact .cons (k2 _ _ (hn _ List.mem_cons_self) h) (ih fun o ho=>hn o (List.mem_cons_of_mem _ ho))
 exact⟨as ++ [a],by rw[zD,List.map_append];rfl,L2.Paired.appP (go ne pa) (.cons (k2 _ _ nl ⟨t,tt,ha,ht,htt⟩) .nil)⟩
def TDp (w N:Nat)(steps:List (List Int))(fs:List Rx.Fd)(os:List Ot)(goal:List Int)(H1:Hp)(t:Addr):Prop:=(∃ wt W s,H1 t=some (.tup [.str "bar",.ref wt,.int s])∧H1 wt=some (.lst (W.map V.int))∧SwBar w fs.length N steps fs os goal W s)∨(∃ ct cnts,H1 t=some (.tup [.str "way",.ref ct])∧H1 ct=some (.lst (cnts.map V.int))∧cnts.length=steps.length∧Bd 40000 cnts∧∀ i:Nat,i < fs.length→(Ld.S steps.length fun j=>Rx.st steps j.toNat (Rx.cl fs i)*Lt.g cnts j.toNat)=Lt.g goal (Rx.cl fs i))
def spSW2 (C:Addr):Sp:=fun vs H Q _=>∃ (r s x gm gt:Addr)(os:List Ot)(steps:List (List Int))(fs:List Rx.Fd)(us:List (List Int))(goal gtops:List Int)(gb p:Int)(w N D Cc G B:Nat),vs=[.ref r,.ref s,.ref x,.ref gm]∧OtAt H r os∧wZ H s steps∧FrAt C H x p w steps fs us∧FrO p w N steps fs us∧Rx.Frm p w steps fs us D Cc∧Nb p fs.length D Cc G B N∧D≤G∧(∀ y∈steps,y.length=w∧Bd N y)∧w≤420∧1000≤p∧steps.length≤20000∧fs.length+os.length≤420∧H gm=some (.tup [.ref gt,.int gb])∧H gt=some (.lst (gtops.map V.int))∧goal.length=w∧Rx.Mad steps fs D N (Rx.fn goal) gtops gb∧(∀ o∈os,o.1 < steps.length∧Rx.Mad steps fs D N (Rx.st steps o.1) o.2.1 o.2.2)∧(os.map (fun o=>o.1) ++ Rx.numsOf fs).Nodup ∧
 ∀ t H',zN H H'→TDp w N steps fs os goal H' t→Q (.ref t) H'
theorem zEv (T:Txt K mg C_Frame t_LEAD_BITS t_FIRST_PRIME):Df P w K mg base 9 "sought_with" ["others","steps","frame","goal_made"] (spSW2 C_Frame):=by
 obtain⟨f,fd,F,rr⟩:=(zFy (P:=P) (w:=w) (base:=base) T).ex
 refine⟨f,fd,F.imp fun vs H Q E h=>?_,rr⟩
 obtain⟨r,s,x,gm,gt,os,steps,fs,us,goal,gtops,gb,p,w',N,D,Cc,G,B,e,a1,a2,a3,a4,a5,a6,a7,a8,a9,a10,a11,a12,a13,a14,a15,a16,a17,a18,q⟩:=h
 exact⟨r,s,x,gm,gt,os,steps,fs,us,goal,gtops,gb,p,w',N,D,Cc,G,B,e,a1,a2,a3,a4,a5,a6,a7,a8,a9,a10,a11,a12,a13,a14,a15,a16,a17,a18,fun t wt H2 W s sm2 h1 h2 sb=>q t H2 sm2 (.inl ⟨wt,W,s,h1,h2,sb⟩),fun t ct H2 cnts sm2 h1 h2 l b e=>q t H2 sm2 (.inr ⟨ct,cnts,h1,h2,l,b,e⟩)⟩
structure Ent0 (C:Addr)(H:Hp)(s x:Addr)(p:Int)(w N D Cc G B:Nat)(steps:List (List Int))(fs:List Rx.Fd)(us:List (List Int)):Prop where
 hS:wZ H s steps
 fa:FrAt C H x p w steps fs us
 fo:FrO p w N steps fs us
 fm:Rx.Frm p w steps fs us D Cc
 nb:Nb p fs.length D Cc G B N
 DG:D≤G
 CG:Cc≤G
 lw:∀ y∈steps,y.length=w∧Bd N y
 w4:w≤420
 p3:1000≤p
 sz:steps.length≤420
theorem Ent0.same {C:Addr}{H H':Hp}{s x:Addr}{p:Int}{w N D Cc G B:Nat}{steps:List (List Int)}{fs:List Rx.Fd}{us:List (List Int)}(h:Ent0 C H s x p w N D Cc G B steps fs us)(sm:zN H H'):Ent0 C H' s x p w N D Cc G B steps fs us :=
 ⟨h.hS.same sm,h.fa.same sm,h.fo,h.fm,h.nb,h.DG,h.CG,h.lw,h.w4,h.p3,h.sz⟩
def spSWn (C:Addr):Sp:=fun vs H Q _=>∃ (s x gm gt:Addr)(steps:List (List Int))(fs:List Rx.Fd)(us:List (List Int))(goal gtops:List Int)(gb p:Int)(w N D Cc G B:Nat),vs=[.ref s,.ref x,.ref gm]∧Ent0 C H s x p w N D Cc G B steps fs us∧H gm=some (.tup [.ref gt,.int gb])∧H gt=some (.lst (gtops.map V.int))∧goal.length=w∧Rx.Mad steps fs D N (Rx.fn goal) gtops gb ∧
 (∀ t wt H' W s,zN H H'→H' t=some (.tup [.str "bar",.ref wt,.int s])→H' wt=some (.lst (W.map V.int))→W.length=w→1≤s→Bd N W→Rx.ShB steps goal W s→Q (.ref t) H') ∧
 ∀ t ct H' cnts,zN H H'→H' t=some (.tup [.str "way",.ref ct])→H' ct=some (.lst (cnts.map V.int))→cnts.length=steps.length→Bd 40000 cnts→(∀ i:Nat,i < fs.length→(Ld.S steps.length fun j=>Rx.st steps j.toNat (Rx.cl fs i)*Lt.g cnts j.toNat)=Lt.g goal (Rx.cl fs i))→Q (.ref t) H'
theorem zEc (T:Txt K mg C_Frame t_LEAD_BITS t_FIRST_PRIME):Df P w K mg base 10 "sought_within" ["steps","frame","goal_made"] (spSWn C_Frame):=by
 have D_sought_with:=zEv (P:=P) (w:=w) (base:=base) T
 have D_first_unbarred:=jX (P:=P) (w:=w) (base:=base) T
 have D_Frame_counts:=zAn (P:=P) (w:=w) (base:=base) T
 refine T.d_sought_within.ok zAi (fun vs H Q E h=>?_) (fun f cdv A outer s H vs Q E hr h=>?_)
 ·obtain⟨_,_,_,_,_,_,_,_,_,_,_,_,_,_,_,_,_,rfl,_⟩:=h;rfl
 obtain⟨s',x,gm,gt,steps,fs,us,goal,gtops,gb,p,w',N,D,Cc,G,B,rfl,e0,hgm,hgt,lgo,mg',qb,qw⟩:=h
 have nd:=zAi.nd
 have nb:=e0.nb
 have N1:=nb.N1
 have N2:=nb.N2
 have eN:=zCt N
 refine⟨_,(zB (zM (i:=3) nd rfl (Or.inl rfl) (wV zC)) (zB (zM (i:=4) nd rfl (Or.inl rfl) (zQ D_sought_with (hr.mono (by decide)) (by rfl) (zA (pv 3) (zA (pv 0) (zA (pv 1) (zA (pv 2) zC)))))) (zB (w5 PassesOwn.never (vF zCw (vC vD (pv 4) zE (fun _ _=>rfl)) zHb (vM _)) (zB (zM (i:=5) nd rfl (Or.inl rfl) (zQ D_first_unbarred (hr.mono (by decide)) (by rfl) (zA (pv 0) (zA (pv 4) zC)))) (zB (wJ (vF op_isN (pv 5) zDh (vM _)) (zI (zU (pv 4))) vQ) (zB (zCc (pe_bm PySem.F.plainAttrs_list PySem.F.slot_list_append PySem.F.type_list_append jU (pv 3) (zA (wE (zA (pv 5) (zA (pe_mth (pv 1) T.cl_Frame D_Frame_counts (hr.mono (by decide)) (zA (vC vP (pv 0) (pv 5) (fun _ _=>rfl)) zC)) zC))) zC))) (zI (zM (i:=4) nd rfl (Or.inl rfl) (zQ D_sought_with (hr.mono (by decide)) (by rfl) (zA (pv 3) (zA (pv 0) (zA (pv 1) (zA (pv 2) zC))))))))))) (zI (zU (pv 4)))))),?_⟩
 refine⟨zAu (by decide),fun O hO=>?_⟩
 have smO:zN H (upd H O (.lst [])):=zG (zN.refl _) hO
 have hO0:upd H O (.lst []) O=some (.lst (([]:List Addr).map V.ref)):=zD
 generalize upd H O (.lst [])=H0 at smO hO0 ⊢
 have szs:∀ os:List Ot,(∀ o∈os,o.1 < steps.length∧Rx.Mad steps fs D N (Rx.st steps o.1) o.2.1 o.2.2)→(os.map (fun o=>o.1) ++ Rx.numsOf fs).Nodup→fs.length+os.length≤420:=fun os mo ndp=>by
  have lt:∀ n∈os.map (fun o=>o.1) ++ Rx.numsOf fs,n < steps.length:=fun n hn=>by
   rcases List.mem_append.mp hn with c | c
   ·obtain⟨o,ho,rfl⟩:=List.mem_map.mp c
    exact (mo o ho).1
   ·exact Rx.nums_lt e0.fo.crn n c
  have ln:=Rx.nd_len ndp lt
  rw[List.length_append,List.length_map] at ln
  have lnf:(Rx.numsOf fs).length=fs.length:=by unfold Rx.numsOf;rw[List.length_map]
  have sz:=e0.sz
  omega
 have sz20:steps.length≤20000:=by have:=e0.sz;omega
 have e00:=e0.same smO
 have nd0:(([]:List Ot).map (fun o=>o.1) ++ Rx.numsOf fs).Nodup:=by rw[List.map_nil,List.nil_append];exact e0.fo.crn.nums_nd
 have mo0:∀ o∈([]:List Ot),o.1 < steps.length∧Rx.Mad steps fs D N (Rx.st steps o.1) o.2.1 o.2.2:=fun o ho=>(nomatch ho)
 refine⟨_,rfl,_,rfl,_,rfl,_,rfl,O,s',x,gm,gt,[],steps,fs,us,goal,gtops,gb,p,w',N,D,Cc,G,B,rfl,⟨[],hO0,.nil⟩,e00.hS,e00.fa,e00.fo,e00.fm,e00.nb,e00.DG,e00.lw,e00.w4,e00.p3,sz20,szs [] mo0 nd0,smO _ _ hgm,smO _ _ hgt,lgo,mg',mo0,nd0,fun t0 H1 sm1 td0=>?_⟩
 refine⟨fun mm σ H'=>zN H H'∧∃ (os:List Ot)(as:List Addr)(t:Addr)(o1:Option V),σ=[some (.ref s'),some (.ref x),some (.ref gm),some (.ref O),some (.ref t),o1]∧H' O=some (.lst (as.map V.ref))∧Paired (OtP H') as os∧(∀ o∈os,o.1 < steps.length∧Rx.Mad steps fs D N (Rx.st steps o.1) o.2.1 o.2.2)∧(os.map (fun o=>o.1) ++ Rx.numsOf fs).Nodup∧TDp w' N steps fs os goal H' t∧mm=steps.length-os.length,
  ⟨_,smO.trans sm1,[],[],t0,none,rfl,sm1 _ _ hO0,.nil,fun o ho=>(nomatch ho),by rw[List.map_nil,List.nil_append];exact e0.fo.crn.nums_nd,td0,rfl⟩,?_⟩
 rintro mm σ H' ⟨sm,os,as,t,o1,rfl,hOo,pa,mo,ndp,td,rfl⟩
 rcases td with ⟨wt,W,s0,ht,hwt,sb⟩ | ⟨ct,cnts,ht,hct,lc,bc,eqc⟩
 rotate_left
 ·have i0:atI [V.str "way",V.ref ct] 0=some (.str "way"):=rfl
  refine⟨_,rfl,t,_,_,_,rfl,rfl,SqT.of ht,i0,rfl,_,rfl,zEd (by decide +kernel) ?_⟩
  exact⟨_,rfl,qw t ct H' cnts sm ht hct lc bc eqc⟩
 have i0:atI [V.str "bar",V.ref wt,V.int s0] 0=some (.str "bar"):=rfl
 refine⟨_,rfl,t,_,_,_,rfl,rfl,SqT.of ht,i0,rfl,_,rfl,zEr (by decide +kernel) ⟨_,fun _ _ h=>h,?_⟩⟩
 have Wb:Bd N W:=in_nat sb.sN sb.rng
 have e1:=e0.same sm
 have s1:=sb.s1
 have w4:=e0.w4
 refine⟨_,rfl,_,rfl,s',t,wt,_,steps,W,s0,w',N,N,rfl,e1.hS,ht,hwt,sb.len,e0.lw,Wb,by omega,by omega,by omega,by omega,fun n H2 sm2 hn ndv=>?_,fun H2 sm2 al=>?_⟩
 ·-- one more
  refine⟨_,rfl,rfl,_,rfl,zEd (by simp) ?_⟩
  have e2:=e1.same sm2
  obtain⟨sas,hs1,hs2⟩:=e2.hS
  obtain⟨dx,ff,ch,co,ro,un,hx,_⟩:=e2.fa.ex
  obtain⟨a,hat,ha⟩:=at_row hs2 (Rx.wD hn)
  have ll:=e0.lw _ (Rx.vZ (rows:=steps) hn)
  have gst:∀ c:Nat,Lt.g (steps.getD n []) c=Rx.st steps n c:=fun c=>by unfold Rx.st;rw[Int.toNat_natCast]
  refine⟨_,rfl,.inl ⟨rfl,_,SqL.of (sm2 _ _ hOo)⟩,_,rfl,_,rfl,x,dx,_,rfl,hx,F8_counts _ _ _ _ _ _ _ _,_,rfl,_,rfl,s',_,_,_,rfl,rfl,SqL.of hs1,hat,x,a,steps,fs,us,steps.getD n [],p,w',N,D,Cc,G,B,rfl,e2.fa,e2.fo,e2.fm,e2.nb,e2.lw,w4,e0.p3,ha,ll.1,fun c hc=>?_,fun tm tt H3 tops b sm3 htm htt lt b1 bD bN bt sol=>?_⟩
  ·rw[gst]
   exact Nat.le_trans (e0.fm.bd n c hn hc) e0.CG
  have mad:Rx.Mad steps fs D N (Rx.st steps n) tops b:=⟨lt,b1,bD,bN,bt,fun i hi=>by rw[← gst];exact sol i hi⟩
  refine⟨(by show 2≤sizeLine;decide),fun tn htn=>?_⟩
  have smn:=zG (o:=.tup [.int (n:Nat),.ref tm]) (zN.refl H3) htn
  have sm23:=(sm2.trans sm3).trans smn
  have hO4:=sm23 _ _ hOo
  have lno:n∉os.map (fun o=>o.1) ++ Rx.numsOf fs:=fun hm=>by
   rcases List.mem_append.mp hm with c | c
   ·obtain⟨o,ho,e⟩:=List.mem_map.mp c
    exact ndv (by have:=sb.ot o ho;rwa [e] at this)
   ·unfold Rx.numsOf at c
    obtain⟨f,hf,e⟩:=List.mem_map.mp c
    obtain⟨j,hj,ej⟩:=List.getElem_of_mem hf
    have:=sb.ch j hj
    have en:Rx.nm fs j=n:=by unfold Rx.nm;rw[Rx.getD_at (List.getElem?_eq_getElem hj),ej,e]
    rw[en] at this
    exact ndv this
  have nd2:((os ++ [((n:Nat),tops,b)]).map (fun o=>o.1) ++ Rx.numsOf fs).Nodup:=by
   rw[List.map_append,List.append_assoc]
   have ndp':=List.nodup_append.mp ndp
   rw[List.nodup_append]
   refine⟨ndp'.1,?_,fun a ha b hb=>?_⟩
   ·show (n::Rx.numsOf fs).Nodup
    rw[List.nodup_cons]
    exact⟨fun hm=>lno (List.mem_append_right _ hm),ndp'.2.1⟩
   ·rcases List.mem_cons.mp (show b∈n::Rx.numsOf fs from hb) with e | e
    ·rw[e];exact fun z=>lno (List.mem_append_left _ (z▸ha))
    ·exact ndp'.2.2 a ha b e
  have mo2:∀ o∈os ++ [((n:Nat),tops,b)],o.1 < steps.length∧Rx.Mad steps fs D N (Rx.st steps o.1) o.2.1 o.2.2:=fun o ho=>by
   rcases List.mem_append.mp ho with c | c
   ·exact mo o c
   ·rw[List.mem_singleton.mp c];exact⟨hn,mad⟩
  have lt2:∀ m∈(os ++ [((n:Nat),tops,b)]).map (fun o=>o.1) ++ Rx.numsOf fs,m < steps.length:=fun m hm=>by
   rcases List.mem_append.mp hm with c | c
   ·obtain⟨o,ho,rfl⟩:=List.mem_map.mp c
    exact (mo2 o ho).1
   ·exact Rx.nums_lt e0.fo.crn m c
  have ln:=Rx.nd_len nd2 lt2
  rw[List.length_append,List.length_map,List.length_append] at ln
  have ln':os.length+1≤steps.length:=by have:os.length + [((n:Nat),tops,b)].length+(Rx.numsOf fs).length≤steps.length:=ln;rw[List.length_singleton] at this;omega
  have sz:=e0.sz
  have k0:=sb.k0
  have nonil:∀ o∈os ++ [((n:Nat),tops,b)],o.2.1≠[]:=fun o ho z=>by
   have:=(mo2 o ho).2.len
   rw[z] at this
   simp at this
   omega
  refine⟨O,_,_,rfl,rfl,hO4,by rw[List.length_map,zP pa];exact zCq (by omega),?_⟩
  have push:=ot_push (o:=((n:Nat),tops,b)) hO4 (otp_same sm23 pa) (fun o ho=>nonil o (List.mem_append_left _ ho)) zD (smn _ _ htm) (smn _ _ htt) (nonil _ (List.mem_append_right _ List.mem_cons_self))
  have smU:zN H (upd (upd H3 tn (.tup [.int (n:Nat),.ref tm])) O (.lst (as.map V.ref ++ [.ref tn]))):=vT (sm.trans sm23) hO
  generalize upd (upd H3 tn (.tup [.int (n:Nat),.ref tm])) O (.lst (as.map V.ref ++ [.ref tn]))=H5 at push smU ⊢
  have e5:=e0.same smU
  refine⟨_,rfl,_,rfl,_,rfl,_,rfl,O,s',x,gm,gt,_,steps,fs,us,goal,gtops,gb,p,w',N,D,Cc,G,B,rfl,push,e5.hS,e5.fa,e5.fo,e5.fm,e5.nb,e5.DG,e5.lw,e5.w4,e5.p3,sz20,szs _ mo2 nd2,smU _ _ hgm,smU _ _ hgt,lgo,mg',mo2,nd2,fun t2 H6 sm6 td6=>?_⟩
  obtain⟨as2,p1,p2⟩:=push.same sm6
  exact⟨steps.length-(os.length+1),by omega,smU.trans sm6,_,as2,t2,_,rfl,p1,p2,mo2,nd2,td6,by rw[List.length_append];rfl⟩
 ·refine⟨_,rfl,rfl,_,rfl,zEr (by simp) ?_⟩
  exact⟨_,rfl,qb t wt H2 W s0 (sm.trans sm2) (sm2 _ _ ht) (sm2 _ _ hwt) sb.len sb.s1 Wb ⟨al,sb.go⟩⟩
structure Nk (k C Cg N B G:Nat):Prop where
 a1:(2*(k*C)+1)^k≤B
 a2:(2*(k*C)+1)^k≤G
 a3:k*((2*(k*C)+1)^k*(Sg.bnd k C*G))≤B
 a4:1≤B
 a5:128*(B*B)*(128*(B*B))*2^480≤2^N
 a6:G < 2^N
 a7:C≤G
 a8:Cg≤G
theorem p16_lt {p:Int}(p0:0≤p)(p30:p < 2^30):p^16≤2^480:=by
 have a:=Nat.pow_le_pow_left (show p.toNat≤2^30 by omega) 16
 have c:((p.toNat^16:Nat):Int)=p^16:=by rw[Int.natCast_pow,show ((p.toNat:Nat):Int)=p by omega]
 have d:(2^30)^16=2^480:=by rw[← Nat.pow_mul]
 rw[d] at a
 have e:=zCt 480
 omega
theorem nb_of {p:Int}{k D C Cg N B G:Nat}(p0:0≤p)(p30:p < 2^30)(Db:D≤(2*(k*C)+1)^k)(h:Nk k C Cg N B G)(N1:480≤N)(N2:N≤9000):Nb p k D C G B N∧D≤G:=by
 refine⟨⟨Nat.le_trans Db h.a1,Nat.le_trans (Nat.mul_le_mul_left _ (Nat.mul_le_mul_right _ Db)) h.a3,h.a4,?_,h.a6,N1,N2⟩,Nat.le_trans Db h.a2⟩
 have a:=p16_lt p0 p30
 have b:(0:Int)≤128*((B:Int)*B)*(128*((B:Int)*B)):=by
  have:(0:Int)≤(B:Int)*B:=Int.mul_nonneg (by omega) (by omega)
  exact Int.mul_nonneg (by omega) (by omega)
 have c:=Int.mul_le_mul_of_nonneg_left a b
 have d:((128*(B*B)*(128*(B*B))*2^480:Nat):Int)=128*((B:Int)*B)*(128*((B:Int)*B))*2^480:=by
  simp only [Int.natCast_mul,Int.natCast_pow];rfl
 have e:=zCt N
 have f:=h.a5
 omega
theorem pk_ref {H:Hp}{as:List Addr}{rows:List (List Int)}(pa:Paired (fun a (x:List Int)=>H a=some (.lst (x.map V.int))) as rows):∀ {ps:List Nat},(∀ q∈ps,q < rows.length)→∃ bs:List Addr,pk (as.map V.ref) ps=bs.map V.ref∧Paired (fun a (x:List Int)=>H a=some (.lst (x.map V.int))) bs (ps.map fun q=>rows.getD q [])
 | [],_=>⟨[],rfl,.nil⟩
 | q::ps,h=>by
  obtain⟨bs,e,p⟩:=pk_ref pa (ps:=ps) fun z hz=>h z (List.mem_cons_of_mem _ hz)
  have ql:=h q List.mem_cons_self
  have la:=zP pa
  have ha:as[q]?=some (as[q]'(by omega)):=List.getElem?_eq_getElem (by omega)
  obtain⟨row,hr,hh⟩:=v9 pa ha
  refine⟨as[q]'(by omega)::bs,?_,.cons (by dsimp only;rw[Rx.getR hr];exact hh) p⟩
  show (as.map V.ref).getD q .non::pk (as.map V.ref) ps=_
  rw[e,List.getD_eq_getElem?_getD,List.getElem?_map,ha];rfl
def spSo (C:Addr):Sp:=fun vs H Q _=>∃ (s gl:Addr)(steps:List (List Int))(goal:List Int)(p:Int)(w N Cc Cg:Nat),vs=[.ref s,.ref gl,.int p]∧wZ H s steps∧H gl=some (.lst (goal.map V.int))∧(∀ y∈steps,y.length=w∧Bd N y)∧goal.length=w∧w≤420∧steps.length≤420∧Pt.Prm p∧1000≤p∧p < 2^30∧480≤N∧N≤9000∧1≤Cc∧(∀ j c:Nat,j < steps.length→c < w→(Rx.st steps j c).natAbs≤Cc)∧(∀ c,c < w→(Lt.g goal c).natAbs≤Cg)∧(∀ k,k≤steps.length→k≤w→∃ B G,Nk k Cc Cg N B G) ∧
 (∀ t wt H' W s,zN H H'→H' t=some (.tup [.str "bar",.ref wt,.int s])→H' wt=some (.lst (W.map V.int))→W.length=w→0≤s→Bd (N+1) W→(Mx.Good p w steps.length (Rx.st steps) (Rx.fn goal)→Rx.ShB steps goal W s)→Q (.ref t) H') ∧
 ∀ t ct H' cnts,zN H H'→H' t=some (.tup [.str "way",.ref ct])→H' ct=some (.lst (cnts.map V.int))→cnts.length=steps.length→Bd 40000 cnts→(Mx.Good p w steps.length (Rx.st steps) (Rx.fn goal)→Rx.ShW w steps goal cnts)→Q (.ref t) H'
theorem ok_sought (T:Txt K mg C_Frame t_LEAD_BITS t_FIRST_PRIME):Df P w K mg base 11 "sought" ["steps","goal","prime"] (spSo C_Frame):=by
 have D_Frame_init:=ok_Frame_init (P:=P) (w:=w) (base:=base) T
 have D_Frame_missed:=zFj (P:=P) (w:=w) (base:=base) T
 have D_Frame_counts:=zAn (P:=P) (w:=w) (base:=base) T
 have D_Frame_weights:=zAl (P:=P) (w:=w) (base:=base) T
 have D_sought_within:=zEc (P:=P) (w:=w) (base:=base) T
 have D_column_of:=zDm (P:=P) (w:=w) (base:=base) T
 have D_picked:=zFh (P:=P) (w:=w) (base:=base) T
 refine T.d_sought.ok sc_sought (fun vs H Q E h=>?_) (fun f cdv A outer s H vs Q E hr h=>?_)
 ·obtain⟨_,_,_,_,_,_,_,_,_,rfl,_⟩:=h;rfl
 obtain⟨s',gl,steps,goal,p,w',N,Cc,Cg,rfl,hS,hg,lw,lg,w4,s4,hp,p3,p30,N1,N2,C1,bs,bg,num,qb,qw⟩:=h
 have nd:=sc_sought.nd
 have eN:=zCt N
 have lw1:∀ y∈steps,y.length=w':=fun y hy=>(lw y hy).1
 refine⟨_,(zB (zM (i:=3) nd rfl (Or.inl rfl) (pe_mkC D_Frame_init (hr.mono (by decide)) (by rfl) (zA (pv 0) (zA (zT zS (by rfl) T.b_len L2.v6 (zA (pv 1) zC)) (zA (pv 2) zC))))) (zB (zM (i:=4) nd rfl (Or.inl rfl) (pe_mth (pv 3) T.cl_Frame D_Frame_missed (hr.mono (by decide)) (zA (pv 1) zC))) (zB (wJ (vF op_isN (pv 4) zDh (vM _)) (zI (zU (zQ D_sought_within (hr.mono (by decide)) (by rfl) (zA (pv 0) (zA (pv 3) (zA (pe_mth (pv 3) T.cl_Frame D_Frame_counts (hr.mono (by decide)) (zA (pv 1) zC)) zC)))))) vQ) (zB (zM (i:=5) nd rfl (Or.inl rfl) (pe_mth (pv 3) T.cl_Frame D_Frame_weights (hr.mono (by decide)) (zA (zQ D_column_of (hr.mono (by decide)) (by rfl) (zA (zQ D_picked (hr.mono (by decide)) (by rfl) (zA (pv 0) (zA (wL (pv 3) rfl) zC))) (zA (pv 4) zC))) zC))) (zB (v8 (cap:=[]) (tgs:=["number"]) (i:=6) nd rfl (Or.inl rfl) rfl rfl rfl (by decide +kernel) (by decide +kernel) (vI (by rfl)) vK vH (vB (by decide)) (vS (vC vD (pv 5) zE (fun _ _=>rfl))) (fun C s H fp=>⟨(zL (i:=0) (show (["number"]:List Str).Nodup by decide +kernel) rfl (Or.inl rfl) (Or.inr rfl)),vJ,(pe_un zDd (pv 0))⟩)) (zB (zCr (vC vD (pv 5) zE (fun _ _=>rfl)) (zDl (pv 6) (pv 4) set_list)) (zI (zU (wE (zA zHb (zA (pv 6) (zA zE zC)))))))))))),?_⟩
 refine⟨_,rfl,_,rfl,gl,_,rfl,.inl (SqL.of hg),_,rfl,fun x dx nx ndx ne=>?_⟩
 have sm0:zN H (upd (upd H dx (.own x)) x (.ins C_Frame dx [])):=fun b o e=>by
  rw[vA (zY e nx),vA (zY e ndx)];exact e
 refine⟨x,s',dx,steps,p,w',N,(by rw[List.length_map,lg];rfl),zD,hS.same sm0,lw,w4,by omega,hp,p30,N1,N2,fun H1 fs us kx fa fo=>⟨rfl,?_⟩⟩
 have sm1:zN H H1:=fun b o e=>kx b o (sm0 b o e) (zY e nx)
 have kl:=fo.crn.fr.le_n hp
 obtain⟨D,fm⟩:=Rx.Frm.mk' hp fo.crn fo.ul (fun u hu=>(fo.uw u hu).1) fo.li C1 bs
 obtain⟨B,G,nk⟩:=num fs.length kl.1 kl.2
 obtain⟨nb,DG⟩:=nb_of (by omega) p30 fm.Db nk N1 N2
 obtain⟨dx',ff,ch,co,ro,un,hx,hff,hch,_⟩:=fa.ex
 have hg1:=sm1 _ _ hg
 have e0:Ent0 C_Frame H1 s' x p w' N D Cc G B steps fs us:=⟨hS.same sm1,fa,fo,fm,nb,DG,nk.a7,lw,w4,p3,s4⟩
 refine⟨_,rfl,x,dx',_,rfl,hx,F8_missed _ _ _ _ _ _ _ _,_,rfl,x,gl,steps,fs,us,goal,p,w',N,rfl,fa,fo,hp,p30,N1,N2,w4,hg1,lg,fun c H2 sm2 hc nz=>?_,fun H2 sm2 z=>?_⟩
 ·refine⟨_,rfl,rfl,_,rfl,zEd (by simp) ?_⟩
  have sm12:=sm1.trans sm2
  obtain⟨sas,hs1,hs2⟩:=hS.same sm12
  have lsas:=zP hs2
  have hx2:=sm2 _ _ hx
  have nl:=Rx.nums_lt fo.crn
  have lnf:(Rx.numsOf fs).length=fs.length:=by unfold Rx.numsOf;rw[List.length_map]
  refine⟨_,rfl,x,dx',_,rfl,hx2,zHd _ _ _ _ _ _ _ _,_,rfl,_,rfl,x,C_Frame,dx',_,_,rfl,hx2,T.cl_Frame,T.na_chosen,F8_chosen _ _ _ _ _ _ _ _,s',ch,_,Rx.numsOf fs,rfl,SqL.of hs1,sm2 _ _ hch,fun q hq=>by rw[List.length_map,lsas];exact nl q hq,by omega,fun t1 H3 sm3 _ h3=>?_⟩
  obtain⟨bs3,e3,pb3⟩:=pk_ref (vN sm3 hs2) (ps:=Rx.numsOf fs) nl
  rw[e3] at h3
  have lpk:∀ row∈(Rx.numsOf fs).map fun q=>steps.getD q [],c < row.length:=fun row hrow=>by
   obtain⟨q,hq,rfl⟩:=List.mem_map.mp hrow
   rw[(lw _ (Rx.vZ (rows:=steps) (nl q hq))).1];exact hc
  refine⟨_,rfl,t1,(Rx.numsOf fs).map (fun q=>steps.getD q []),c,rfl,⟨bs3,h3,pb3⟩,lpk,by rw[List.length_map];omega,fun t2 H4 sm4 _ h4=>?_⟩
  obtain⟨am,ham⟩:∃ am:List Int,am=((Rx.numsOf fs).map fun q=>steps.getD q []).map fun row=>Lt.g row c:=⟨_,rfl⟩
  rw[← ham] at h4
  have lam:am.length=fs.length:=by rw[ham,List.length_map,List.length_map,lnf]
  have eam:∀ i,i < fs.length→Lt.g am i=Lt.g (steps.getD (Rx.nm fs i) []) c:=fun i hi=>Rx.wH (by rw[ham,List.getElem?_map,List.getElem?_map,Rx.nums_at hi];rfl)
  have sm24:=(sm2.trans sm3).trans sm4
  have amG:∀ i,i < fs.length→(Lt.g am i).natAbs≤G:=fun i hi=>by
   rw[eam i hi]
   have:=bs (Rx.nm fs i) c (fo.crn.numn hi) hc
   unfold Rx.st at this
   rw[Int.toNat_natCast] at this
   exact Nat.le_trans this nk.a7
  have e4:=e0.same sm24
  refine⟨x,t2,steps,fs,us,am,p,w',N,D,Cc,G,B,rfl,e4.fa,fo,fm,nb,lw,w4,p3,h4,lam,amG,fun tt W0 H5 tops b sm5 htt hW0 _ lt b1 bD bN bt sol=>?_⟩
  have i0:atI [V.ref W0,V.int b] 0=some (.ref W0):=rfl
  have i1:atI [V.ref W0,V.int b] 1=some (.int b):=rfl
  refine⟨_,rfl,tt,_,_,_,rfl,rfl,SqT.of htt,i0,W0,rfl,⟨_,SqL.of hW0⟩,?_⟩
  refine v3 (K:=K) (xs:=(Rx.spr w' (Rx.vE fs) tops).map V.int) ((Rx.spr w' (Rx.vE fs) tops).map fun y=>-y) (by rw[List.length_map,List.length_map]) (by rw[List.length_map,Rx.jR];omega) (SqL.of hW0) ?_ ?_
  ·intro i y H6 hy sm6 R kk
   obtain⟨u,rfl,hu⟩:=int_at hy
   exact⟨_,rfl,_,rfl,kk _ _ (zN.refl _) (by rw[List.getElem?_map,hu];rfl)⟩
  intro wa H6 sm6 nwa hwa
  refine⟨_,rfl,tt,_,_,_,rfl,rfl,SqT.of (sm6 _ _ htt),i1,_,rfl,_,rfl,wa,_,_,_,rfl,rfl,hwa,zDx (by omega) (by rw[List.length_map,List.length_map,Rx.jR];omega),?_⟩
  rw[Int.toNat_natCast,set_int]
  have smA:=((sm1.trans sm24).trans sm5)
  have smU:zN H (upd H6 wa (.lst ((((Rx.spr w' (Rx.vE fs) tops).map fun y=>-y).set c b).map V.int))):=vT (smA.trans sm6) (smA.free nwa)
  have hU:upd H6 wa (.lst ((((Rx.spr w' (Rx.vE fs) tops).map fun y=>-y).set c b).map V.int)) wa=some (.lst ((((Rx.spr w' (Rx.vE fs) tops).map fun y=>-y).set c b).map V.int)):=zD
  generalize upd H6 wa (.lst ((((Rx.spr w' (Rx.vE fs) tops).map fun y=>-y).set c b).map V.int))=H7 at smU hU ⊢
  refine⟨_,rfl,(by show 3≤sizeLine;decide),fun tr htr=>?_⟩
  refine qb tr wa _ _ 0 (zG smU htr) zD (zG (zN.refl _) htr _ _ hU) (by rw[List.length_set,List.length_map,Rx.jR]) (Int.le_refl 0) (fun y hy=>?_) fun gd=>?_
  ·rw[Nat.pow_succ]
   rcases List.mem_or_eq_of_mem_set hy with z | z
   ·obtain⟨u,hu,rfl⟩:=List.mem_map.mp z
    rw[Int.natAbs_neg]
    rcases Rx.spr_mem hu with e | e
    ·rw[e];have:=Nat.pow_pos (n:=N) (show 0 < 2 by decide);show 0 < _;omega
    ·have:=bt u e;omega
   ·rw[z];omega
  ·exact Rx.miss_bar hp fo.crn fm.ci2 lw1 lg lt hc nz b1 eam sol gd
 ·refine⟨_,rfl,rfl,_,rfl,zEr (by simp) ?_⟩
  have hx2:=sm2 _ _ hx
  have e2:=e0.same sm2
  have sm12:=sm1.trans sm2
  have hm:Mx.Hm p w' (Rx.st steps) fs.length (Rx.nm fs) (Rx.fn goal):=fo.crn.hm (by omega) lg z
  refine⟨_,rfl,_,rfl,_,rfl,x,dx',_,rfl,hx2,F8_counts _ _ _ _ _ _ _ _,_,rfl,x,gl,steps,fs,us,goal,p,w',N,D,Cc,G,B,rfl,e2.fa,fo,fm,nb,lw,w4,p3,sm2 _ _ hg1,lg,fun c hc=>Nat.le_trans (bg c hc) nk.a8,fun t tt H3 tops b sm3 ht htt lt b1 bD bN bt sol=>?_⟩
  have e3:=e2.same sm3
  refine⟨s',x,t,tt,steps,fs,us,goal,tops,b,p,w',N,D,Cc,G,B,rfl,e3,ht,htt,lg,⟨lt,b1,bD,bN,bt,fun i hi=>by rw[sol i hi];unfold Rx.fn;rw[Int.toNat_natCast]⟩,fun t wt H4 W s sm4 h1 h2 lW s1 bW sh=>?_,fun t ct H4 cnts sm4 h1 h2 lc bc eqc=>?_⟩
  ·exact qb t wt H4 W s ((sm12.trans sm3).trans sm4) h1 h2 lW (by omega) (zBy bW (by omega)) fun _=>sh
  ·exact qw t ct H4 cnts ((sm12.trans sm3).trans sm4) h1 h2 lc bc fun gd=>Rx.way_shown hp fo.crn gd hm eqc
def IsSh (w:Nat)(steps:List (List Int))(goal:List Int)(H:Hp)(t:Addr)(Q:VK):Prop :=
 (∃ wt W s N,H t=some (.tup [.str "bar",.ref wt,.int s])∧H wt=some (.lst (W.map V.int))∧W.length=w∧0≤s∧Bd N W∧N≤1000000∧(∀ H',zN H H'→Rx.ShB steps goal W s→Q (.bl true) H')∧∀ H',zN H H'→¬ Rx.ShB steps goal W s→Q (.bl false) H') ∨
 ∃ ct cnts,H t=some (.tup [.str "way",.ref ct])∧H ct=some (.lst (cnts.map V.int))∧cnts.length=steps.length∧Bd 40000 cnts∧(∀ H',zN H H'→Rx.ShW w steps goal cnts→Q (.bl true) H')∧∀ H',zN H H'→¬ Rx.ShW w steps goal cnts→Q (.bl false) H'
def spSh (K:PySem.W.Frag):Sp:=fun vs H Q _=>∃ (s gl t:Addr)(steps:List (List Int))(goal:List Int)(w N:Nat),vs=[.ref s,.ref gl,.ref t]∧wZ H s steps∧H gl=some (.lst (goal.map V.int))∧(∀ y∈steps,y.length=w∧Bd N y)∧goal.length=w∧Bd N goal∧w≤420∧steps.length≤420∧N≤1000000∧IsSh w steps goal H t Q
theorem ok_is_shown (T:Txt K mg C_Frame t_LEAD_BITS t_FIRST_PRIME):Df P w K mg base 4 "is_shown" ["steps","goal","told"] (spSh K):=by
 have D_summed:=ok_summed (P:=P) (w:=w) (base:=base) T
 have D_first_unbarred:=jX (P:=P) (w:=w) (base:=base) T
 refine T.d_is_shown.ok zEn (fun vs H Q E h=>?_) (fun f cdv A outer s H vs Q E hr h=>?_)
 ·obtain⟨_,_,_,_,_,_,_,rfl,_⟩:=h;rfl
 obtain⟨s',gl,t,steps,goal,w',N,rfl,hS,hg,lw,lg,bg,w4,s4,N1,tl⟩:=h
 have nd:=zEn.nd
 refine⟨_,(zB (wJ (vF zCw (vC vD (pv 2) zE (fun _ _=>rfl)) zHb (vM _)) (zI (zU (zDc (op_eqD (hu64 hr)) (zQ D_summed (hr.mono (by decide)) (by rfl) (zA (pv 0) (zA (vC vD (pv 2) zE (fun _ _=>rfl)) (zA (zT zS (by rfl) T.b_len L2.v6 (zA (pv 1) zC)) zC)))) (pv 1) (vM _)))) vQ) (zI (zU (pe_and (zDc op_isN (zQ D_first_unbarred (hr.mono (by decide)) (by rfl) (zA (pv 0) (zA (pv 2) zC))) zDh (vM _)) (pe_one (zDc zCw (zQ D_first_unbarred (hr.mono (by decide)) (by rfl) (zA (wV (zA (pv 1) zC)) (zA (pv 2) zC))) zE (vM _))))))),?_⟩
 rcases tl with ⟨wt,W,s0,M,ht,hw,lW,s1,bW,M1,qt,qf⟩ | ⟨ct,cnts,ht,hc,lc,bc,qt,qf⟩
 ·have i0:atI [V.str "bar",V.ref wt,V.int s0] 0=some (.str "bar"):=rfl
  refine⟨_,rfl,t,_,_,_,rfl,rfl,SqT.of ht,i0,rfl,_,rfl,zEd (by decide +kernel) ?_⟩
  have fin:∀ H1:Hp,zN H H1→(∀ j,j < steps.length→s0∣Rx.dot (steps.getD j []) W)→True:=fun _ _ _=>trivial
  refine⟨_,rfl,_,rfl,s',t,wt,_,steps,W,s0,w',N,M,rfl,hS,ht,hw,lW,lw,bW,by omega,N1,M1,s1,fun n H1 sm1 hn ndv=>?_,fun H1 sm1 al=>?_⟩
  ·refine⟨rfl,_,rfl,zEd (by simp) ?_⟩
   exact qf H1 sm1 fun sh=>ndv (sh.1 n hn)
  ·refine⟨rfl,_,rfl,zEr (by simp) ?_⟩
   refine⟨_,rfl,(by show 1≤sizeLine;decide),fun l1 hl1=>?_⟩
   have sm2:=zG (o:=.lst [V.ref gl]) (zN.refl H1) hl1
   have sm12:=sm1.trans sm2
   have hl:upd H1 l1 (.lst [V.ref gl]) l1=some (.lst ([gl].map V.ref)):=zD
   generalize upd H1 l1 (.lst [V.ref gl])=H2 at sm2 sm12 hl ⊢
   refine⟨_,rfl,l1,t,wt,_,[goal],W,s0,w',N,M,rfl,⟨[gl],hl,.cons (sm12 _ _ hg) .nil⟩,sm12 _ _ ht,sm12 _ _ hw,lW,fun y hy=>by rw[List.mem_singleton.mp hy];exact⟨lg,bg⟩,bW,by omega,N1,M1,s1,fun n H3 sm3 hn ndv=>?_,fun H3 sm3 al2=>?_⟩
   ·have n0:n=0:=by rw[List.length_singleton] at hn;omega
    subst n0
    refine⟨rfl,?_⟩
    exact qt H3 (sm12.trans sm3) ⟨al,ndv⟩
   ·refine⟨rfl,?_⟩
    exact qf H3 (sm12.trans sm3) fun sh=>sh.2 (al2 0 (by rw[List.length_singleton];exact Nat.one_pos))
 ·have i0:atI [V.str "way",V.ref ct] 0=some (.str "way"):=rfl
  have i1:atI [V.str "way",V.ref ct] 1=some (.ref ct):=rfl
  refine⟨_,rfl,t,_,_,_,rfl,rfl,SqT.of ht,i0,rfl,_,rfl,zEr (by decide +kernel) ?_⟩
  refine⟨_,rfl,_,rfl,t,_,_,_,rfl,rfl,SqT.of ht,i1,_,rfl,gl,_,rfl,.inl (SqL.of hg),s',ct,steps,cnts,w',steps.length,N,40000,(by rw[List.length_map,lg];rfl),hS,hc,rfl,lc,lw,bc,by omega,by omega,N1,by decide,fun o H1 out sm1 ho lo eqs=>?_⟩
  refine⟨_,rfl,eqL_of (SqL.of ho) (SqL.of (sm1 _ _ hg)) ?_⟩
  by_cases e:out=goal
  ·rw[decide_eq_true e]
   exact qt H1 sm1 fun c hc=>by rw[← eqs c hc,e]
  ·rw[decide_eq_false e]
   exact qf H1 sm1 fun sh=>e (Rx.g_ext (by rw[lo,lg]) fun c hc=>by rw[eqs c (by omega)];exact sh c (by omega))
theorem mul62 {a b:Int}(h1:-1000000000000≤a)(h2:a≤1000000000000):IntMulOk a b:=zEi h1 h2
def spPPB:Sp:=fun vs H Q _=>∃ n p:Int,vs=[.int n,.int p]∧1≤n∧n≤1000010000∧2≤p∧p≤31625∧∀ q,Pt.QEnd n p q→Q (.int q) H
def spPartsB:Sp:=fun vs H Q _=>∃ n:Int,vs=[.int n]∧1≤n∧n≤1000010000∧∀ r H' ps,zN H H'→PrAt H' r ps→Pt.Parts n ps→Q (.ref r) H'
theorem zEs (T:Txt K mg C_Frame t_LEAD_BITS t_FIRST_PRIME):Df P w K mg base 1 "prime_power" ["n","p"] spPPB:=by
 refine T.d_prime_power.ok zBj (fun vs H Q E h=>?_) (fun f cdv A outer s H vs Q E hr h=>?_)
 ·obtain⟨_,_,rfl,_⟩:=h;rfl
 obtain⟨n,p,rfl,n1,n2,p1,p2,q⟩:=h
 have nd:=zBj.nd
 refine⟨_,(zB (zM (i:=2) nd rfl (Or.inl rfl) zE) (zB (w5 PassesOwn.never (vF zCw (zK vR (pv 0) (zK vG (pv 2) (pv 1))) zE (vM _)) (zI (zM (i:=2) nd rfl (Or.inl rfl) (zK vG (pv 2) (pv 1))))) (zI (zU (pv 2))))),?_⟩
 refine⟨fun m σ H'=>H'=H∧∃ q,σ=[some (.int n),some (.int p),some (.int q)]∧Pt.QInv n p q∧m=(n-q).toNat,⟨_,rfl,1,rfl,Pt.q0 n p,rfl⟩,?_⟩
 rintro m σ H' ⟨rfl,z,rfl,hz,rfl⟩
 have z1:=hz.pos
 have z2:=Pt.q_le n1 hz
 have zp:=Pt.q_grow p1 z1
 refine⟨_,rfl,_,rfl,_,rfl,_,_,rfl,rfl,mul62 (by omega) (by omega),_,_,rfl,rfl,(show 0 < z*p by omega),rfl,_,rfl,?_⟩
 refine zCs (fun c=>?_) (fun c=>?_)
 ·have hq:=Pt.q1 p1 hz (vint c)
  have hl:=Pt.q_le n1 hq
  refine⟨_,fun _ _ h=>h,?_⟩
  refine⟨_,rfl,_,rfl,_,_,rfl,rfl,mul62 (by omega) (by omega),?_⟩
  exact⟨(n-z*p).toNat,by omega,rfl,_,rfl,hq,rfl⟩
 ·exact⟨_,rfl,q z (Pt.q2 hz (nvint c))⟩
theorem ok_partsB (T:Txt K mg C_Frame t_LEAD_BITS t_FIRST_PRIME):Df P w K mg base 2 "parts" ["n"] spPartsB:=by
 have D_prime_power:=zEs (P:=P) (w:=w) (base:=base) T
 refine T.d_parts.ok sc_parts (fun vs H Q E h=>?_) (fun f cdv A outer s H vs Q E hr h=>?_)
 ·obtain⟨_,rfl,_⟩:=h;rfl
 obtain⟨n,rfl,n1,n2,q⟩:=h
 have nd:=sc_parts.nd
 refine⟨_,(zB (zM (i:=1) nd rfl (Or.inl rfl) (wV zC)) (zB (zM (i:=2) nd rfl (Or.inl rfl) (pv 0)) (zB (zM (i:=3) nd rfl (Or.inl rfl) zE) (zB (w5 PassesOwn.never (vF op_le (zK vG (pv 3) (pv 3)) (pv 2) (vM _)) (zB (zM (i:=4) nd rfl (Or.inl rfl) (zQ D_prime_power (hr.mono (by decide)) (by rfl) (zA (pv 2) (zA (pv 3) zC)))) (zB (wJ (vF op_gt (pv 4) zE (vM _)) (zB (zCc (pe_bm PySem.F.plainAttrs_list PySem.F.slot_list_append PySem.F.type_list_append jU (pv 1) (zA (wE (zA (pv 3) (zA (pv 4) zC))) zC))) (zI (zM (i:=2) nd rfl (Or.inl rfl) (zK vO (pv 2) (pv 4))))) vQ) (zI (zM (i:=3) nd rfl (Or.inl rfl) (zK vU (pv 3) zE)))))) (zB (wJ (vF op_gt (pv 2) zE (vM _)) (zI (zCc (pe_bm PySem.F.plainAttrs_list PySem.F.slot_list_append PySem.F.type_list_append jU (pv 1) (zA (wE (zA (pv 2) (zA (pv 2) zC))) zC)))) vQ) (zI (zU (pv 1)))))))),?_⟩
 refine⟨Nat.zero_le _,fun r hr0=>?_⟩
 refine⟨_,rfl,?_⟩
 refine⟨fun m σ H'=>zN H H'∧∃ (as:List Addr)(ps:List (Int×Int))(left p:Int)(qv:Option V),σ=[some (.int n),some (.ref r),some (.int left),some (.int p),qv] ∧
   H' r=some (.lst (as.map V.ref))∧Paired (fun a (x:Int×Int)=>H' a=some (.tup [.int x.1,.int x.2])) as ps∧Pt.PInv n ps left p∧1≤left∧left≤1000010000∧2≤p∧p≤31625∧(ps.length:Int)+2≤p∧m=(40000-p).toNat,
  ⟨_,vT (zN.refl H) hr0,[],[],n,2,none,rfl,zD,.nil,Pt.start n,n1,n2,by omega,by omega,by simp,rfl⟩,?_⟩
 rintro m σ H' ⟨sm,as,ps,left,p,qv,rfl,hl,pr,inv,l1,l2,p1,p2,hlen,rfl⟩
 have al:=Paired.length pr
 refine⟨_,rfl,_,rfl,_,_,rfl,rfl,mul62 (by omega) (by omega),_,rfl,_,_,rfl,rfl,_,rfl,?_⟩
 refine zCs (fun c=>?_) (fun c=>?_)
 ·have hd:=dec c
  have a:p≤31624:=by
   rcases Int.lt_or_le 31624 p with y | y
   ·have:=Int.mul_le_mul (show 31625≤p by omega) (show 31625≤p by omega) (by decide) (by omega)
    omega
   ·exact y
  refine⟨_,fun _ _ h=>h,?_⟩
  refine⟨_,rfl,_,rfl,left,p,rfl,l1,l2,p1,by omega,fun z hz=>?_⟩
  refine⟨_,rfl,_,_,rfl,rfl,_,rfl,?_⟩
  refine zCs (fun c=>?_) (fun c=>?_)
  ·have z1:=dec c
   have zl:=Pt.q_le l1 hz.inv
   have lp:=Pt.left_pos l1 hz.inv.dv hz.inv.pos
   refine⟨_,rfl,.inl ⟨rfl,_,SqL.of hl⟩,_,rfl,_,rfl,(by show 2≤sizeLine;decide),fun t ht=>?_⟩
   have rt:r≠t:=zY hl ht
   refine⟨r,_,_,rfl,rfl,(vA rt).trans hl,by rw[List.length_map];exact Nat.lt_of_le_of_lt (show as.length≤40000 by omega) (by decide),?_⟩
   refine⟨_,rfl,_,rfl,_,_,rfl,rfl,div9 (by omega) (show z.natAbs < 2^40 by omega) (by decide),?_⟩
   refine⟨_,rfl,_,_,rfl,rfl,?_⟩
   refine⟨(40000-(p+1)).toNat,by omega,vT (vT sm (sm.free ht)) hr0,as ++ [t],ps ++ [(p,z)],left/z,p+1,some (.int z),rfl,?_,?_,Pt.turnA p1 inv hz z1,lp.1,by omega,by omega,by omega,by rw[List.length_append,List.length_singleton];omega,rfl⟩
   ·rw[zD,List.map_append];rfl
   ·refine Paired.snoc (Paired.mapP pr fun a x e=>?_) ?_
    ·rw[vA (zCf e hl (fun z=>by cases z)),vA (zY e ht)];exact e
    ·rw[vA (Ne.symm rt)];exact zD
  ·refine⟨_,rfl,_,_,rfl,rfl,?_⟩
   exact⟨(40000-(p+1)).toNat,by omega,sm,as,ps,left,p+1,some (.int z),rfl,hl,pr,Pt.turnB inv hz (ndec c),l1,l2,by omega,by omega,by omega,rfl⟩
 ·have hd:=ndec c
  refine⟨_,rfl,_,_,rfl,rfl,_,rfl,?_⟩
  refine zCs (fun c=>?_) (fun c=>?_)
  ·have z1:=dec c
   refine⟨_,rfl,.inl ⟨rfl,_,SqL.of hl⟩,_,rfl,_,rfl,(by show 2≤sizeLine;decide),fun t ht=>?_⟩
   have rt:r≠t:=zY hl ht
   refine⟨r,_,_,rfl,rfl,(vA rt).trans hl,by rw[List.length_map];exact Nat.lt_of_le_of_lt (show as.length≤40000 by omega) (by decide),?_⟩
   refine⟨_,rfl,?_⟩
   refine q r _ (ps ++ [(left,left)]) (vT (vT sm (sm.free ht)) hr0) ⟨as ++ [t],?_,?_⟩ (Pt.endA p1 inv hd z1)
   ·rw[zD,List.map_append];rfl
   ·refine Paired.snoc (Paired.mapP pr fun a x e=>?_) ?_
    ·rw[vA (zCf e hl (fun z=>by cases z)),vA (zY e ht)];exact e
    ·rw[vA (Ne.symm rt)];exact zD
  ·exact⟨_,rfl,q r H' ps sm ⟨as,hl,pr⟩ (Pt.endB inv l1 (ndec c))⟩
def spNp:Sp:=fun vs H Q _=>∃ (n P0:Int),vs=[.int n]∧1≤n∧n < P0∧P0≤1000010000∧Pt.Prm P0∧∀ (q:Int) H',zN H H'→Pt.Prm q→n < q→q≤P0→Q (.int q) H'
theorem ok_next_prime (T:Txt K mg C_Frame t_LEAD_BITS t_FIRST_PRIME):Df P w K mg base 3 "next_prime" ["number"] spNp:=by
 have D_parts:=ok_partsB (P:=P) (w:=w) (base:=base) T
 refine T.d_next_prime.ok zCn (fun vs H Q E h=>?_) (fun f cdv A outer s H vs Q E hr h=>?_)
 ·obtain⟨_,_,rfl,_⟩:=h;rfl
 obtain⟨n,P0,rfl,n1,nP,Pz,hP,q⟩:=h
 have nd:=zCn.nd
 refine⟨_,(zB (zM (i:=1) nd rfl (Or.inl rfl) (zK vU (pv 0) zE)) (zB (w5 PassesOwn.never (vF (op_neD (hu64 hr)) (zQ D_parts (hr.mono (by decide)) (by rfl) (zA (pv 1) zC)) (wV (zA (wE (zA (pv 1) (zA (pv 1) zC))) zC)) (vM _)) (zI (zM (i:=1) nd rfl (Or.inl rfl) (zK vU (pv 1) zE)))) (zI (zU (pv 1))))),?_⟩
 refine⟨_,rfl,_,_,rfl,rfl,?_⟩
 refine⟨fun m σ H'=>zN H H'∧∃ f:Int,σ=[some (.int n),some (.int f)]∧n < f∧f≤P0∧m=(P0-f).toNat,⟨_,zN.refl _,n+1,rfl,by omega,by omega,rfl⟩,?_⟩
 rintro m σ H' ⟨sm,f,rfl,nf,fP,rfl⟩
 refine⟨_,rfl,f,rfl,by omega,by omega,fun r H1 ps sm1 pr pt=>?_⟩
 refine⟨_,rfl,_,rfl,(by show 2≤sizeLine;decide),fun t ht=>⟨(by show 1≤sizeLine;decide),fun l hl=>?_⟩⟩
 have smt:=zG (o:=.tup [V.int f,V.int f]) (zN.refl H1) ht
 have sml:=zG (o:=.lst [V.ref t]) smt hl
 have pl:PrAt (upd (upd H1 t (.tup [V.int f,V.int f])) l (.lst [V.ref t])) l [(f,f)]:=⟨[t],zD,.cons (zG (zN.refl _) hl _ _ zD) .nil⟩
 have pr':PrAt (upd (upd H1 t (.tup [V.int f,V.int f])) l (.lst [V.ref t])) r ps:=by
  obtain⟨as,e1,e2⟩:=pr
  exact⟨as,sml _ _ e1,wQ e2 fun _ _ z=>sml _ _ z⟩
 refine nePr_of pr' pl ⟨_,rfl,zCs (fun c=>?_) (fun c=>?_)⟩
 ·have ne:ps≠[(f,f)]:=fun z=>by rw[decide_eq_true z] at c;cases c
  have lt:f≠P0:=fun z=>ne (by rw[z];exact Rx.parts_prm (z▸pt) hP)
  refine⟨_,fun _ _ h=>h,?_⟩
  refine⟨_,rfl,_,_,rfl,rfl,?_⟩
  exact⟨(P0-(f+1)).toNat,by omega,(sm.trans sm1).trans sml,f+1,rfl,by omega,by omega,rfl⟩
 ·have e:ps=[(f,f)]:=by
   rcases Decidable.em (ps=[(f,f)]) with z | z
   ·exact z
   ·rw[decide_eq_false z] at c;exact absurd rfl c
  exact⟨_,rfl,q f _ ((sm.trans sm1).trans sml) (Rx.prm_parts pt e) nf fP⟩
def spRe (C:Addr):Sp:=fun vs H Q _=>∃ (s gl:Addr)(steps:List (List Int))(goal:List Int)(w N Cc Cg:Nat),vs=[.ref s,.ref gl]∧wZ H s steps∧H gl=some (.lst (goal.map V.int))∧(∀ y∈steps,y.length=w)∧goal.length=w∧w≤420∧steps.length≤420∧480≤N∧N≤9000∧1≤Cc∧Cc≤Cg∧Cg < 2^N∧(∀ y∈steps,∀ z∈y,z.natAbs≤Cc)∧(∀ z∈goal,z.natAbs≤Cg)∧(∀ k,k≤steps.length→k≤w→∃ B G,Nk k Cc Cg N B G)∧(∀ k,k≤steps.length→k≤w→(2*(k*Cc)+1)^k*((k+1)*(Sg.bnd k Cg*Cg)) < Pq.pd Pq.S) ∧
 (∀ t wt H' W s,zN H H'→H' t=some (.tup [.str "bar",.ref wt,.int s])→H' wt=some (.lst (W.map V.int))→W.length=w→0≤s→Bd (N+1) W→Rx.ShB steps goal W s→Q (.ref t) H') ∧
 ∀ t ct H' cnts,zN H H'→H' t=some (.tup [.str "way",.ref ct])→H' ct=some (.lst (cnts.map V.int))→cnts.length=steps.length→Bd 40000 cnts→Rx.ShW w steps goal cnts→Q (.ref t) H'
def TDr (w N:Nat)(steps:List (List Int))(goal:List Int)(p:Int)(H1:Hp)(t:Addr):Prop:=(∃ wt W s,H1 t=some (.tup [.str "bar",.ref wt,.int s])∧H1 wt=some (.lst (W.map V.int))∧W.length=w∧0≤s∧Bd (N+1) W∧(Mx.Good p w steps.length (Rx.st steps) (Rx.fn goal)→Rx.ShB steps goal W s))∨∃ ct cnts,H1 t=some (.tup [.str "way",.ref ct])∧H1 ct=some (.lst (cnts.map V.int))∧cnts.length=steps.length∧Bd 40000 cnts∧(Mx.Good p w steps.length (Rx.st steps) (Rx.fn goal)→Rx.ShW w steps goal cnts)
def spSo2 (C:Addr):Sp:=fun vs H Q _=>∃ (s gl:Addr)(steps:List (List Int))(goal:List Int)(p:Int)(w N Cc Cg:Nat),vs=[.ref s,.ref gl,.int p]∧wZ H s steps∧H gl=some (.lst (goal.map V.int))∧(∀ y∈steps,y.length=w∧Bd N y)∧goal.length=w∧w≤420∧steps.length≤420∧Pt.Prm p∧1000≤p∧p < 2^30∧480≤N∧N≤9000∧1≤Cc∧(∀ j c:Nat,j < steps.length→c < w→(Rx.st steps j c).natAbs≤Cc)∧(∀ c,c < w→(Lt.g goal c).natAbs≤Cg)∧(∀ k,k≤steps.length→k≤w→∃ B G,Nk k Cc Cg N B G) ∧
 ∀ t H',zN H H'→TDr w N steps goal p H' t→Q (.ref t) H'
theorem ok_sought2 (T:Txt K mg C_Frame t_LEAD_BITS t_FIRST_PRIME):Df P w K mg base 11 "sought" ["steps","goal","prime"] (spSo2 C_Frame):=by
 obtain⟨f,fd,F,rr⟩:=(ok_sought (P:=P) (w:=w) (base:=base) T).ex
 refine⟨f,fd,F.imp fun vs H Q E h=>?_,rr⟩
 obtain⟨s,gl,steps,goal,p,w',N,Cc,Cg,e,a1,a2,a3,a4,a5,a6,a7,a8,a9,a10,a11,a12,a13,a14,a15,q⟩:=h
 exact⟨s,gl,steps,goal,p,w',N,Cc,Cg,e,a1,a2,a3,a4,a5,a6,a7,a8,a9,a10,a11,a12,a13,a14,a15,fun t wt H2 W s sm2 h1 h2 l z b sh=>q t H2 sm2 (.inl ⟨wt,W,s,h1,h2,l,z,b,sh⟩),fun t ct H2 cnts sm2 h1 h2 l b sh=>q t H2 sm2 (.inr ⟨ct,cnts,h1,h2,l,b,sh⟩)⟩
theorem ok_reach (T:Txt K mg C_Frame t_LEAD_BITS t_FIRST_PRIME):Df P w K mg base 12 "reach" ["steps","goal"] (spRe C_Frame):=by
 have D_sought:=ok_sought2 (P:=P) (w:=w) (base:=base) T
 have D_is_shown:=ok_is_shown (P:=P) (w:=w) (base:=base) T
 have D_next_prime:=ok_next_prime (P:=P) (w:=w) (base:=base) T
 refine T.d_reach.ok sc_reach (fun vs H Q E h=>?_) (fun f cdv A outer s H vs Q E hr h=>?_)
 ·obtain⟨_,_,_,_,_,_,_,_,rfl,_⟩:=h;rfl
 obtain⟨s',gl,steps,goal,w',N,Cc,Cg,rfl,hS,hg,lw,lg,w4,s4,N1,N2,C1,CC,CN,bs,bg,num,big,qb,qw⟩:=h
 have nd:=sc_reach.nd
 have lwB:∀ y∈steps,y.length=w'∧Bd N y:=fun y hy=>⟨lw y hy,fun z hz=>by have:=bs y hy z hz;omega⟩
 have gB:Bd N goal:=fun z hz=>by have:=bg z hz;omega
 have bst:∀ j c:Nat,j < steps.length→c < w'→(Rx.st steps j c).natAbs≤Cc:=fun j c hj hc=>by
  unfold Rx.st
  rw[Int.toNat_natCast]
  have m:=Rx.vZ (rows:=steps) hj
  exact bs _ m _ (Rx.j8 (by rw[lw _ m];exact hc))
 have bgc:∀ c:Nat,c < w'→(Lt.g goal c).natAbs≤Cg:=fun c hc=>bg _ (Rx.j8 (by omega))
 obtain⟨P0,PS,good⟩:=Mx.good_ex (S:=Pq.S) (by decide) (fun q hq=>(Pq.S_prm hq).1) Pq.nod (w:=w') (n:=steps.length) (stp:=Rx.st steps) (goal:=Rx.fn goal) C1 CC bst (fun c hc=>by unfold Rx.fn;rw[Int.toNat_natCast];exact bgc c hc) big
 have hP:=Pq.S_prm PS
 have first:=Pq.S_prm (p:=1000000007) (by decide)
 have first':Pt.Prm 1000000007:=first.1
 have p30:(1000010000:Int) < 2^30:=by decide
 refine⟨_,(zB (zM (i:=2) nd rfl (Or.inl rfl) (pe_glob (v:=.int 1000000007) (by rfl) T.g_FIRST_PRIME ⟨_,rfl⟩)) (zB (zM (i:=3) nd rfl (Or.inl rfl) (zQ D_sought (hr.mono (by decide)) (by rfl) (zA (pv 0) (zA (pv 1) (zA (pv 2) zC))))) (zB (w5 PassesOwn.never (zHc (zHa (zQ D_is_shown (hr.mono (by decide)) (by rfl) (zA (pv 0) (zA (pv 1) (zA (pv 3) zC)))))) (zB (zM (i:=2) nd rfl (Or.inl rfl) (zQ D_next_prime (hr.mono (by decide)) (by rfl) (zA (pv 2) zC))) (zI (zM (i:=3) nd rfl (Or.inl rfl) (zQ D_sought (hr.mono (by decide)) (by rfl) (zA (pv 0) (zA (pv 1) (zA (pv 2) zC)))))))) (zI (zU (pv 3)))))),?_⟩
 refine⟨_,rfl,_,rfl,_,rfl,s',gl,steps,goal,1000000007,w',N,Cc,Cg,rfl,hS,hg,lwB,lg,w4,s4,first',by decide,by decide,N1,N2,C1,bst,bgc,num,fun t0 H1 sm1 td=>?_⟩
 refine⟨fun m σ H'=>zN H H'∧∃ (p:Int)(t:Addr),σ=[some (.ref s'),some (.ref gl),some (.int p),some (.ref t)]∧Pt.Prm p∧1000000007≤p∧p≤P0∧TDr w' N steps goal p H' t∧m=((P0:Int)-p).toNat,⟨_,sm1,1000000007,t0,rfl,first',Int.le_refl _,by omega,td,rfl⟩,?_⟩
 rintro m σ H' ⟨sm,p,t,rfl,pp,p1,p2,td,rfl⟩
 have next:∀ H2:Hp,zN H' H2→¬ Mx.Good p w' steps.length (Rx.st steps) (Rx.fn goal)→p < P0:=fun H2 _ ng=>by
  have:p≠P0:=fun z=>ng (by rw[z];exact good)
  omega
 have cases_:∀ Qq:VK,(∀ H2,zN H' H2→p < P0→Qq (.bl false) H2)→(∀ H2,zN H' H2→((∃ wt W s,H' t=some (.tup [.str "bar",.ref wt,.int s])∧H' wt=some (.lst (W.map V.int))∧W.length=w'∧0≤s∧Bd (N+1) W∧Rx.ShB steps goal W s)∨∃ ct cnts,H' t=some (.tup [.str "way",.ref ct])∧H' ct=some (.lst (cnts.map V.int))∧cnts.length=steps.length∧Bd 40000 cnts∧Rx.ShW w' steps goal cnts)→Qq (.bl true) H2)→IsSh w' steps goal H' t Qq:=fun Qq F Y=>by
  rcases td with ⟨wt,W,s0,h1,h2,lW,s1,bW,sh⟩ | ⟨ct,cnts,h1,h2,lc,bc,sh⟩
  ·exact .inl ⟨wt,W,s0,N+1,h1,h2,lW,s1,bW,by omega,fun H2 s2 y=>Y H2 s2 (.inl ⟨wt,W,s0,h1,h2,lW,s1,bW,y⟩),fun H2 s2 y=>F H2 s2 (next H2 s2 fun gd=>y (sh gd))⟩
  ·exact .inr ⟨ct,cnts,h1,h2,lc,bc,fun H2 s2 y=>Y H2 s2 (.inr ⟨ct,cnts,h1,h2,lc,bc,y⟩),fun H2 s2 y=>F H2 s2 (next H2 s2 fun gd=>y (sh gd))⟩
 refine⟨_,rfl,_,rfl,_,rfl,s',gl,t,steps,goal,w',N,rfl,hS.same sm,sm _ _ hg,lwB,lg,gB,w4,s4,by omega,cases_ _ (fun H2 sm2 lt=>?_) (fun H2 sm2 y=>?_)⟩
 ·refine⟨_,rfl,zEr (by decide) ⟨_,fun _ _ h=>h,?_⟩⟩
  refine⟨_,rfl,p,P0,rfl,by omega,lt,by omega,hP.1,fun q H3 sm3 hq lq ql=>?_⟩
  have sm23:=(sm.trans sm2).trans sm3
  refine⟨_,rfl,_,rfl,_,rfl,s',gl,steps,goal,q,w',N,Cc,Cg,rfl,hS.same sm23,sm23 _ _ hg,lwB,lg,w4,s4,hq,by omega,by omega,N1,N2,C1,bst,bgc,num,fun t2 H4 sm4 td4=>?_⟩
  exact⟨((P0:Int)-q).toNat,by omega,sm23.trans sm4,q,t2,rfl,hq,by omega,by omega,td4,rfl⟩
 ·refine⟨_,rfl,zEd (by decide) ?_⟩
  rcases y with ⟨wt,W,s0,h1,h2,lW,s1,bW,sh⟩ | ⟨ct,cnts,h1,h2,lc,bc,sh⟩
  ·exact⟨_,rfl,qb t wt H2 W s0 (sm.trans sm2) (sm2 _ _ h1) (sm2 _ _ h2) lW s1 bW sh⟩
  ·exact⟨_,rfl,qw t ct H2 cnts (sm.trans sm2) (sm2 _ _ h1) (sm2 _ _ h2) lc bc sh⟩
def spWhole:Sp:=fun vs H Q _=>∃ i:Int,vs=[.int i]∧Q (.bl true) H
theorem ok_law_whole (T:Txt K mg C_Frame t_LEAD_BITS t_FIRST_PRIME):Df P w K mg base 1 "_law_whole" ["found"] spWhole:=by
 refine T.d_law_whole.ok zDi (fun vs H Q E h=>?_) (fun f cdv A outer s H vs Q E hr h=>?_)
 ·obtain⟨_,rfl,_⟩:=h;rfl
 obtain⟨i,rfl,q⟩:=h
 have nd:=zDi.nd
 refine⟨_,(zI (zU (pe_and (zT zAe (by rfl) T.b_isinstance L2.wY (zA (pv 0) (zA (pe_bltn (v:=.ty "int") (by rfl) T.b_int L2.bi_int (by rfl)) zC))) (pe_one (pe_not (zT zAe (by rfl) T.b_isinstance L2.wY (zA (pv 0) (zA (pe_bltn (v:=.ty "bool") (by rfl) T.b_bool L2.bi_bool (by rfl)) zC)))))))),?_⟩
 refine⟨_,rfl,_,_,_,true,rfl,.int i,zEh _,true,rfl,iteT ?_⟩
 exact⟨_,rfl,_,_,_,false,rfl,.int i,L2.kit_ib,false,rfl,q⟩
def spCellAt (K:PySem.W.Frag):Sp:=fun vs H Q _=>∃ (a:Addr)(ns:List Int)(k:Int),vs=[.ref a,.int k]∧SqL K H a (ns.map V.int)∧0≤k∧∀ v:Int,Q (.int v) H
theorem zGb (T:Txt K mg C_Frame t_LEAD_BITS t_FIRST_PRIME):Df P w K mg base 1 "_law_cell_at" ["script","k"] (spCellAt K):=by
 refine T.d_law_cell_at.ok zBk (fun vs H Q E h=>?_) (fun f cdv A outer s H vs Q E hr h=>?_)
 ·obtain⟨_,_,_,rfl,_⟩:=h;rfl
 obtain⟨a,ns,k,rfl,hS,k0,q⟩:=h
 have nd:=zBk.nd
 refine⟨_,(zB (wJ (vF op_lt (pv 1) (zT zS (by rfl) T.b_len L2.v6 (zA (pv 0) zC)) (vM _)) (zI (zU (vC vP (pv 0) (pv 1) (fun _ _=>rfl)))) vQ) (zI (zU zE))),?_⟩
 refine⟨_,rfl,_,rfl,a,_,rfl,.inl hS,_,_,rfl,rfl,_,rfl,?_⟩
 refine zCs (fun c=>?_) (fun c=>q 0)
 have hk:=dec c
 rw[List.length_map] at hk
 obtain⟨v,hv,_⟩:=atI_in k0 hk
 exact⟨_,rfl,_,rfl,a,_,_,_,rfl,rfl,hS,hv,q v⟩
def spNums:Sp:=fun vs H Q _=>∃ (r:Addr)(cs:List Int),vs=[.ref r,.int cs.length]∧H r=some (.lst (cs.map V.int))∧cs.length≤20000∧∀ H',zN H H'→Q (.bl true) H'
theorem zFw (T:Txt K mg C_Frame t_LEAD_BITS t_FIRST_PRIME):Df P w K mg base 2 "_law_numbers" ["found","many"] spNums:=by
 have D_law_whole:=ok_law_whole (P:=P) (w:=w) (base:=base) T
 refine T.d_law_numbers.ok zBq (fun vs H Q E h=>?_) (fun f cdv A outer s H vs Q E hr h=>?_)
 ·obtain⟨_,_,rfl,_⟩:=h;rfl
 obtain⟨r,cs,rfl,hl,c10,q⟩:=h
 have nd:=zBq.nd
 refine⟨_,(zB (wJ (PW.pt (pw_or (zHc (zHa (zT zAe (by rfl) T.b_isinstance L2.wY (zA (pv 0) (zA (pe_bltn (v:=.ty "list") (by rfl) T.b_list L2.bi_list (by rfl)) zC))))) (pw_or1 (vF zGc (zT zS (by rfl) T.b_len L2.v6 (zA (pv 0) zC)) (pv 1) (vM _))))) (zI (zU pe_bl)) vQ) (zI (zU (zT (call_allB rfl) (by rfl) T.b_all L2.bi_all (zA (zZ (cap:=[]) (tgs:=["one"])  rfl rfl rfl (by decide +kernel) (by decide +kernel) (vI (by rfl)) vK vH (vB (by decide)) (vS (pv 0)) (fun C s H fp=>⟨(zL (i:=0) (show (["one"]:List Str).Nodup by decide +kernel) rfl (Or.inl rfl) (Or.inr rfl)),vJ,(zQ D_law_whole (hr.mono (by decide)) (by rfl) (zA (pv 0) zC))⟩)) zC))))),?_⟩
 refine⟨_,rfl,_,_,_,true,rfl,.lst hl,zEh _,true,rfl,iteF ?_⟩
 refine⟨_,rfl,r,_,rfl,.inl (SqL.of hl),_,rfl,rfl,_,rfl,iteNS (by rw[List.length_map]) ?_⟩
 refine⟨_,rfl,r,rfl,⟨_,SqL.of hl⟩,?_⟩
 refine zCk (K:=K) (xs:=cs.map V.int) (fun i ys H2=>H2=H∧ys=(List.replicate i true).map V.bl) ⟨rfl,rfl⟩ (fun i ys H2 _ z=>by rw[z.1];exact SqL.of hl)
  (fun i ys H2 hi z=>by rw[List.length_map] at hi;rw[z.2,List.length_map,List.length_replicate];exact zCq (by omega)) ?_ ?_
 ·rintro i x ys H2 hx ⟨rfl,rfl⟩
  obtain⟨u,rfl,hu⟩:=int_at hx
  refine⟨_,rfl,u,rfl,rfl,?_⟩
  rw[List.replicate_succ',List.map_append];rfl
 ·rintro ys H2 ⟨rfl,rfl⟩ D hD
  refine⟨D,_,rfl,SqL.of zD,?_⟩
  have e:((List.replicate (cs.map V.int).length true).all id)=true:=by rw[List.all_eq_true];intro b hb;rw[(List.mem_replicate.mp hb).2];rfl
  rw[e]
  exact q _ (zG (zN.refl _) hD)
def spSumL (K:PySem.W.Frag):Sp:=fun vs H Q _=>∃ (r s:Addr)(a b:List Int)(N M:Nat),vs=[.ref r,.ref s]∧H r=some (.lst (a.map V.int))∧H s=some (.lst (b.map V.int))∧a.length=b.length∧Bd N a∧Bd M b∧N≤1000000∧M≤1000000∧∀ H',zN H H'→Q (.int (Rx.dot a b)) H'
theorem zGd (T:Txt K mg C_Frame t_LEAD_BITS t_FIRST_PRIME):Df P w K mg base 1 "_law_sum" ["row","weights"] (spSumL K):=by
 refine T.d_law_sum.ok zGl (fun vs H Q E h=>?_) (fun f cdv A outer s H vs Q E hr h=>?_)
 ·obtain⟨_,_,_,_,_,_,rfl,_⟩:=h;rfl
 obtain⟨r,s',a,b,N,M,rfl,h1,h2,l,ba,bb,N1,M1,q⟩:=h
 have nd:=zGl.nd
 refine⟨_,(zB (zM (i:=2) nd rfl (Or.inl rfl) zE) (zB (wM PassesOwn.never rfl (zBl (by rfl) T.b_zip (zA (pv 0) (zA (pv 1) zC))) (wB rfl (zO (zL (i:=3) nd rfl (Or.inl rfl)) (zO (zL (i:=4) nd rfl (Or.inl rfl)) vV))) (zI (zM (i:=2) nd rfl (Or.inl rfl) (zK vU (pv 2) (zK vG (pv 3) (pv 4)))))) (zI (zU (pv 2))))),?_⟩
 refine⟨_,rfl,_,rfl,r,s',rfl,⟨_,SqL.of h1⟩,⟨_,SqL.of h2⟩,for_zip (K:=K) (xs:=a.map V.int) (ys:=b.map V.int) (by rw[List.length_map,List.length_map,l]) (fun i σ H2=>zN H H2∧∃ o1 o2:Option V,σ=[some (.ref r),some (.ref s'),some (.int (Ld.S i fun j=>Lt.g a j.toNat*Lt.g b j.toNat)),o1,o2]) ⟨zN.refl _,none,none,rfl⟩ (fun i σ H2 _ z=>⟨z.1.seq (SqL.of h1),z.1.seq (SqL.of h2)⟩) ?_ ?_⟩
 ·rintro i x y σ H2 p hx hy ⟨sm,o1,o2,rfl⟩ hp
  obtain⟨u,rfl,hu⟩:=int_at hx
  obtain⟨v,rfl,hv⟩:=int_at hy
  refine⟨p,_,rfl,SqT.of zD,rfl,_,_,rfl,_,_,rfl,rfl,?_⟩
  refine⟨_,rfl,_,rfl,_,rfl,_,_,rfl,rfl,mulN (ba u (List.mem_of_getElem? hu)) (bb v (List.mem_of_getElem? hv)) N1 M1,_,_,rfl,rfl,?_⟩
  refine⟨zG sm hp,some (.int u),some (.int v),?_⟩
  have e:(Ld.S (i+1) fun j=>Lt.g a j.toNat*Lt.g b j.toNat)=(Ld.S i fun j=>Lt.g a j.toNat*Lt.g b j.toNat)+u*v:=by
   show (Ld.S i fun j=>Lt.g a j.toNat*Lt.g b j.toNat)+Lt.g a (i:Int).toNat*Lt.g b (i:Int).toNat=_
   rw[Int.toNat_natCast,Rx.wH hu,Rx.wH hv]
  rw[e];rfl
 ·rintro σ H2 ⟨sm,o1,o2,rfl⟩
  refine⟨_,rfl,?_⟩
  rw[List.length_map,← Rx.zAr rfl l.symm]
  exact q H2 sm
def spWayL (K:PySem.W.Frag):Sp:=fun vs H Q _=>∃ (t s gl:Addr)(steps:List (List Int))(goal:List Int)(w N:Nat),vs=[.ref t,.ref s,.ref gl]∧wZ H s steps∧H gl=some (.lst (goal.map V.int))∧(∀ y∈steps,y.length=w∧Bd N y)∧goal.length=w∧w≤420∧steps.length≤420∧N≤1000000 ∧
 ((∃ ct cnts,H t=some (.tup [.str "way",.ref ct])∧H ct=some (.lst (cnts.map V.int))∧cnts.length=steps.length∧Bd 40000 cnts∧Rx.ShW w steps goal cnts∧∀ H',zN H H'→Q (.bl true) H')∨∃ v0 v1 v2,H t=some (.tup [v0,v1,v2])∧∀ H',zN H H'→Q (.bl false) H')
theorem ok_law_way (T:Txt K mg C_Frame t_LEAD_BITS t_FIRST_PRIME):Df P w K mg base 3 "_law_way" ["found","steps","goal"] (spWayL K):=by
 have D_law_numbers:=zFw (P:=P) (w:=w) (base:=base) T
 have D_law_sum:=zGd (P:=P) (w:=w) (base:=base) T
 refine T.d_law_way.ok zHe (fun vs H Q E h=>?_) (fun f cdv A outer s H vs Q E hr h=>?_)
 ·obtain⟨_,_,_,_,_,_,_,rfl,_⟩:=h;rfl
 obtain⟨t,s',gl,steps,goal,w',N,rfl,hS,hg,lw,lg,w4,s4,N1,tl⟩:=h
 have nd:=zHe.nd
 refine⟨_,(zB (wJ (PW.pt (pw_or (zHc (zHa (zT zAe (by rfl) T.b_isinstance L2.wY (zA (pv 0) (zA (pe_bltn (v:=.ty "tuple") (by rfl) T.b_tuple L2.bi_tuple (by rfl)) zC))))) (pw_or (vF zGc (zT zS (by rfl) T.b_len L2.v6 (zA (pv 0) zC)) zE (vM _)) (pw_or1 (vF zGc (vC vD (pv 0) zE (fun _ _=>rfl)) zHb (vM _)))))) (zI (zU pe_bl)) vQ) (zB (wJ (zHc (zHa (zQ D_law_numbers (hr.mono (by decide)) (by rfl) (zA (vC vD (pv 0) zE (fun _ _=>rfl)) (zA (zT zS (by rfl) T.b_len L2.v6 (zA (pv 1) zC)) zC))))) (zI (zU pe_bl)) vQ) (zB (wM PassesOwn.never rfl (wN (by rfl) T.b_range (zA (zT zS (by rfl) T.b_len L2.v6 (zA (pv 2) zC)) zC)) (zL (i:=3) nd rfl (Or.inr rfl)) (zI (wJ (vF zGc (zQ D_law_sum (hr.mono (by decide)) (by rfl) (zA (zZ (cap:=[("k",3)]) (tgs:=["step"])  rfl rfl rfl (by decide +kernel) (by decide +kernel) (vI (by rfl)) (zV rfl vK) (zX ⟨rfl,Or.inl rfl,Or.inl rfl,_,rfl⟩ vH) (vB (by decide)) (vS (pv 1)) (fun C s H fp=>⟨(zL (i:=1) (show (["k","step"]:List Str).Nodup by decide +kernel) rfl (Or.inl rfl) (Or.inr rfl)),vJ,(vC (zBb (K:=K) rfl) (pv 1) (pv 0) (fun _ _=>rfl))⟩)) (zA (vC vD (pv 0) zE (fun _ _=>rfl)) zC))) (vC vP (pv 2) (pv 3) (fun _ _=>rfl)) (vM _)) (zI (zU pe_bl)) vQ))) (zI (zU pe_bl))))),?_⟩
 rcases tl with ⟨ct,cnts,ht,hc,lc,bc,sh,q⟩ | ⟨v0,v1,v2,ht,q⟩
 rotate_left
 ·refine⟨_,rfl,_,_,_,true,rfl,.tup ht,zEh _,true,rfl,iteF ?_⟩
  refine⟨_,rfl,t,_,rfl,.inr (SqT.of ht),rfl,_,rfl,zEr (by show (!decide (V.int 3=V.int 2))=true;simp) ?_⟩
  exact q H (zN.refl _)
 obtain⟨as,h1,pa⟩:=id hS
 have la:=zP pa
 have i0:atI [V.str "way",V.ref ct] 0=some (.str "way"):=rfl
 have i1:atI [V.str "way",V.ref ct] 1=some (.ref ct):=rfl
 refine⟨_,rfl,_,_,_,true,rfl,.tup ht,zEh _,true,rfl,iteF ?_⟩
 refine⟨_,rfl,t,_,rfl,.inr (SqT.of ht),rfl,_,rfl,zEd (by show ¬ (!decide (V.int 2=V.int 2))=true;simp) ?_⟩
 refine⟨_,rfl,t,_,_,_,rfl,rfl,SqT.of ht,i0,rfl,_,rfl,iteNS rfl ?_⟩
 refine⟨_,rfl,t,_,_,_,rfl,rfl,SqT.of ht,i1,_,rfl,s',_,rfl,.inl (SqL.of h1),ct,cnts,(by rw[List.length_map,la,lc];rfl),hc,by omega,fun H1 sm1=>⟨_,rfl,zEd (by decide) ?_⟩⟩
 refine⟨_,rfl,gl,_,rfl,.inl (SqL.of (sm1 _ _ hg)),w',by rw[List.length_map,lg],by omega,by omega,jY (n:=w') (fun k σ H2=>zN H H2∧∃ o:Option V,σ=[some (.ref t),some (.ref s'),some (.ref gl),o]) ⟨sm1,none,rfl⟩ ?_ ?_⟩
 ·rintro k σ H2 hk ⟨sm,o,rfl⟩
  refine⟨_,rfl,s',rfl,⟨_,SqL.of (sm _ _ h1)⟩,?_⟩
  refine v3 (K:=K) (xs:=as.map V.ref) (steps.map fun row=>Lt.g row k) (by rw[List.length_map,List.length_map,la]) (by rw[List.length_map];omega) (SqL.of (sm _ _ h1)) ?_ ?_
  ·intro i x H3 hx sm3 R kk
   obtain⟨a,row,rfl,ha,hrow,hh⟩:=wX pa hx
   have rl:=lw row (List.mem_of_getElem? hrow)
   exact⟨_,rfl,_,rfl,a,_,_,_,rfl,rfl,SqL.of (sm3 _ _ (sm _ _ hh)),v4 (by rw[List.getElem?_map,Rx.wI (by omega)];rfl),kk _ _ (zN.refl _) (by rw[List.getElem?_map,hrow];rfl)⟩
  intro c1 H3 sm3 _ h3
  have sm13:=sm.trans sm3
  refine⟨_,rfl,t,_,_,_,rfl,rfl,SqT.of (sm13 _ _ ht),i1,c1,ct,steps.map (fun row=>Lt.g row k),cnts,N,40000,rfl,h3,sm13 _ _ hc,by rw[List.length_map,lc],fun y hy=>?_,bc,N1,by decide,fun H4 sm4=>?_⟩
  ·obtain⟨row,hr,rfl⟩:=List.mem_map.mp hy
   have rl:=lw row hr
   exact rl.2 _ (Rx.j8 (by omega))
  have sm14:=sm13.trans sm4
  have cg:atI (goal.map V.int) (k:Int)=some (.int (Lt.g goal k)):=v4 (by rw[List.getElem?_map,Rx.wI (by omega)];rfl)
  refine⟨_,rfl,_,rfl,gl,_,_,_,rfl,rfl,SqL.of (sm14 _ _ hg),cg,rfl,_,rfl,iteNS ?_ ⟨sm14,_,rfl⟩⟩
  have e:=sh k hk
  rw[Rx.zAr (n:=steps.length) (by rw[List.length_map]) lc,← e]
  congr 1
  refine Ld.zH fun j hj=>?_
  rw[Int.toNat_natCast,Rx.wH (l:=steps.map fun row=>Lt.g row k) (v:=Lt.g (steps.getD j []) k) (by rw[List.getElem?_map,Rx.wD hj];rfl),Int.mul_comm]
 ·rintro σ H2 ⟨sm,o,rfl⟩
  exact q H2 sm
structure Rco (n w C Cg:Nat):Prop where
 C1:1≤C
 CC:C≤Cg
 CN:Cg < 2^9000
 num:∀ k,k≤n→k≤w→∃ B G,Nk k C Cg 9000 B G
 big:∀ k,k≤n→k≤w→(2*(k*C)+1)^k*((k+1)*(Sg.bnd k Cg*Cg)) < Pq.pd Pq.S
theorem rco_of {n w C Cg K0:Nat}(C1:1≤C)(CC:C≤Cg)(h:(List.range K0).all (fun k=>Rx.chk k C Cg)=true)(K1:0 < K0)(le:∀ k,k≤n→k≤w→k < K0):Rco n w C Cg:=by
 have ck:∀ k,k < K0→Rx.chk k C Cg=true:=fun k hk=>List.all_eq_true.mp h k (List.mem_range.mpr hk)
 have sp:∀ k,k < K0→128*(Rx.gB k C Cg*Rx.gB k C Cg)*(128*(Rx.gB k C Cg*Rx.gB k C Cg))*2^480≤2^9000∧Rx.gG k C Cg < 2^9000∧Rx.gD k C*((k+1)*(Sg.bnd k Cg*Cg)) < Pq.pd Pq.S:=fun k hk=>by
  have c:=ck k hk
  unfold Rx.chk at c
  rw[Bool.and_eq_true,Bool.and_eq_true] at c
  exact⟨Nat.le_of_ble_eq_true c.1.1,Nat.le_of_ble_eq_true c.1.2,Nat.le_of_ble_eq_true c.2⟩
 refine⟨C1,CC,Nat.lt_of_le_of_lt (show Cg≤Rx.gG 0 C Cg by unfold Rx.gG;exact Nat.le_add_left ..) (sp 0 K1).2.1,fun k a b=>⟨Rx.gB k C Cg,Rx.gG k C Cg,?_,?_,?_,?_,(sp k (le k a b)).1,(sp k (le k a b)).2.1,?_,?_⟩,fun k a b=>(sp k (le k a b)).2.2⟩
 ·show Rx.gD k C≤Rx.gB k C Cg
  unfold Rx.gB;exact Nat.le_trans (Nat.le_add_left ..) (Nat.le_add_right ..)
 ·show Rx.gD k C≤Rx.gG k C Cg
  unfold Rx.gG;exact Nat.le_trans (Nat.le_add_right ..) (Nat.le_add_right ..)
 ·show k*(Rx.gD k C*(Sg.bnd k C*Rx.gG k C Cg))≤Rx.gB k C Cg
  unfold Rx.gB;exact Nat.le_trans (Nat.le_add_right ..) (Nat.le_add_right ..)
 ·unfold Rx.gB;exact Nat.le_add_left ..
 ·unfold Rx.gG;exact Nat.le_trans (Nat.le_add_left ..) (Nat.le_add_right ..)
 ·unfold Rx.gG;exact Nat.le_add_left ..
def Shp (m w:Nat):Prop:=(m≤5∧1≤w∧w≤60)∨(20≤m∧m≤40∧1≤w∧w≤2)∨(6≤m∧m≤12∧3≤w∧w≤6)
def spShp:Sp:=fun vs H Q _=>∃ c:Int,vs=[.int c]∧∀ t H' (m w:Nat),zN H H'→H' t=some (.tup [.int m,.int w])→Shp m w→Q (.ref t) H'
theorem ok_law_shape (T:Txt K mg C_Frame t_LEAD_BITS t_FIRST_PRIME):Df P w K mg base 1 "_law_shape" ["cell"] spShp:=by
 refine T.d_law_shape.ok zDp (fun vs H Q E h=>?_) (fun f cdv A outer s H vs Q E hr h=>?_)
 ·obtain⟨_,rfl,_⟩:=h;rfl
 obtain⟨c,rfl,q⟩:=h
 have nd:=zDp.nd
 have mm:∀ x:Int,0 < x→∃ m:Nat,(m:Int)=c/8%x∧(m:Int) < x:=fun x hx=>by
  have a:=Int.emod_nonneg (c/8) (show x≠0 by omega)
  have b:=Int.emod_lt_of_pos (c/8) hx
  exact⟨(c/8%x).toNat,by omega,by omega⟩
 have ww:∀ (d x:Int),0 < x→∃ m:Nat,(m:Int)=c/d%x∧(m:Int) < x:=fun d x hx=>by
  have a:=Int.emod_nonneg (c/d) (show x≠0 by omega)
  have b:=Int.emod_lt_of_pos (c/d) hx
  exact⟨(c/d%x).toNat,by omega,by omega⟩
 refine⟨_,(zB (wJ (vF zCw (zK vR (pv 0) zE) zE (vM _)) (zI (zU (wE (zA (zK vR (zK vO (pv 0) zE) zE) (zA (zK vU zE (zK vR (zK vO (pv 0) zE) zE)) zC))))) vQ) (zB (wJ (vF zCw (zK vR (pv 0) zE) zE (vM _)) (zI (zU (wE (zA (zK vU zE (zK vR (zK vO (pv 0) zE) zE)) (zA (zK vU zE (zK vR (zK vO (pv 0) zE) zE)) zC))))) vQ) (zB (wJ (vF zCw (zK vR (pv 0) zE) zE (vM _)) (zI (zU (wE (zA (zK vU zE (zK vR (zK vO (pv 0) zE) zE)) (zA (zK vU zE (zK vR (zK vO (pv 0) zE) zE)) zC))))) vQ) (zI (zU (wE (zA (zK vR (zK vO (pv 0) zE) zE) (zA (zK vU zE (zK vR (zK vO (pv 0) zE) zE)) zC)))))))),?_⟩
 refine⟨_,rfl,_,_,rfl,rfl,(show (0:Int) < 8 by decide),rfl,_,rfl,zCs (fun _=>?_) (fun _=>?_)⟩
 ·obtain⟨m,em,lm⟩:=mm 6 (by decide)
  obtain⟨u,eu,lu⟩:=ww 48 51 (by decide)
  refine⟨_,rfl,_,_,rfl,rfl,wF (by decide) (by decide),_,_,rfl,rfl,(show (0:Int) < 6 by decide),_,rfl,_,_,rfl,rfl,wF (by decide) (by decide),_,_,rfl,rfl,(show (0:Int) < 51 by decide),_,_,rfl,rfl,(by show 2≤sizeLine;decide),fun t ht=>?_⟩
  refine q t _ m (10+u) (zG (zN.refl _) ht) (by rw[zD,em,Int.natCast_add,eu];rfl) (.inl ⟨by omega,by omega,by omega⟩)
 refine⟨_,rfl,_,_,rfl,rfl,(show (0:Int) < 8 by decide),rfl,_,rfl,zCs (fun _=>?_) (fun _=>?_)⟩
 ·obtain⟨m,em,lm⟩:=mm 21 (by decide)
  obtain⟨u,eu,lu⟩:=ww 168 2 (by decide)
  refine⟨_,rfl,_,_,rfl,rfl,wF (by decide) (by decide),_,_,rfl,rfl,(show (0:Int) < 21 by decide),_,_,rfl,rfl,_,rfl,_,_,rfl,rfl,wF (by decide) (by decide),_,_,rfl,rfl,(show (0:Int) < 2 by decide),_,_,rfl,rfl,(by show 2≤sizeLine;decide),fun t ht=>?_⟩
  refine q t _ (20+m) (1+u) (zG (zN.refl _) ht) (by rw[zD,Int.natCast_add,Int.natCast_add,em,eu];rfl) (.inr (.inl ⟨by omega,by omega,by omega,by omega⟩))
 refine⟨_,rfl,_,_,rfl,rfl,(show (0:Int) < 8 by decide),rfl,_,rfl,zCs (fun _=>?_) (fun _=>?_)⟩
 ·obtain⟨m,em,lm⟩:=mm 7 (by decide)
  obtain⟨u,eu,lu⟩:=ww 56 4 (by decide)
  refine⟨_,rfl,_,_,rfl,rfl,wF (by decide) (by decide),_,_,rfl,rfl,(show (0:Int) < 7 by decide),_,_,rfl,rfl,_,rfl,_,_,rfl,rfl,wF (by decide) (by decide),_,_,rfl,rfl,(show (0:Int) < 4 by decide),_,_,rfl,rfl,(by show 2≤sizeLine;decide),fun t ht=>?_⟩
  refine q t _ (6+m) (3+u) (zG (zN.refl _) ht) (by rw[zD,Int.natCast_add,Int.natCast_add,em,eu];rfl) (.inr (.inr ⟨by omega,by omega,by omega,by omega⟩))
 ·obtain⟨m,em,lm⟩:=mm 6 (by decide)
  obtain⟨u,eu,lu⟩:=ww 48 4 (by decide)
  refine⟨_,rfl,_,_,rfl,rfl,wF (by decide) (by decide),_,_,rfl,rfl,(show (0:Int) < 6 by decide),_,rfl,_,_,rfl,rfl,wF (by decide) (by decide),_,_,rfl,rfl,(show (0:Int) < 4 by decide),_,_,rfl,rfl,(by show 2≤sizeLine;decide),fun t ht=>?_⟩
  refine q t _ m (1+u) (zG (zN.refl _) ht) (by rw[zD,em,Int.natCast_add,eu];rfl) (.inl ⟨by omega,by omega,by omega⟩)
def spNb (K:PySem.W.Frag):Sp:=fun vs H Q _=>∃ (r:Addr)(cs:List Int)(tot ms:Nat),vs=[.ref r,.int tot,.int ms]∧H r=some (.lst (cs.map V.int))∧cs.length≤63∧1≤tot∧tot≤420∧ms≤10^60∧∀ t H' (ns:List Int),zN H H'→H t=none→H' t=some (.lst (ns.map V.int))→ns.length=tot→(∀ x∈ns,x.natAbs≤63*ms)→Q (.ref t) H'
theorem zDa (T:Txt K mg C_Frame t_LEAD_BITS t_FIRST_PRIME):Df P w K mg base 1 "_law_numbers_by" ["cells","total","most"] (spNb K):=by
 refine T.d_law_numbers_by.ok jT (fun vs H Q E h=>?_) (fun f cdv A outer s H vs Q E hr h=>?_)
 ·obtain⟨_,_,_,_,rfl,_⟩:=h;rfl
 obtain⟨r,cs,tot,ms,rfl,h1,lc,t1,t4,mz,q⟩:=h
 have nd:=jT.nd
 refine⟨_,(zB (zM (i:=3) nd rfl (Or.inl rfl) (zK zEx (wV (zA zE zC)) (pv 1))) (zB (wM PassesOwn.never rfl (wN (by rfl) T.b_range (zA (zT zS (by rfl) T.b_len L2.v6 (zA (pv 0) zC)) zC)) (zL (i:=4) nd rfl (Or.inl rfl)) (zB (zM (i:=5) nd rfl (Or.inl rfl) (zK vR (pv 4) (pv 1))) (zI (zCr (zK jD (zK vU (vC vP (pv 3) (pv 5) (fun _ _=>rfl)) (zK vR (vC vP (pv 0) (pv 4) (fun _ _=>rfl)) (zK vU (zK vG zE (pv 2)) zE))) (pv 2)) (zDl (pv 3) (pv 5) set_list))))) (zB (wJ (vF op_gt (zT zS (by rfl) T.b_len L2.v6 (zA (pv 0) zC)) zE (vM _)) (zI (wM PassesOwn.never rfl (pi_range2 (by rfl) T.b_range (zA (zT zS (by rfl) T.b_len L2.v6 (zA (pv 0) zC)) (zA (pv 1) zC))) (zL (i:=4) nd rfl (Or.inl rfl)) (zB (zM (i:=6) nd rfl (Or.inl rfl) (zK vU (zK vR (vC vP (pv 0) (zK vR (pv 4) (zT zS (by rfl) T.b_len L2.v6 (zA (pv 0) zC))) (fun _ _=>rfl)) zE) (pv 4))) (zB (zM (i:=6) nd rfl (Or.inl rfl) (zK vR (zK vG (zK vR (zK vG (pv 6) (pv 6)) zE) zE) zE)) (zI (zCr (zK jD (zK vR (pv 6) (zK vU (zK vG zE (pv 2)) zE)) (pv 2)) (zDl (pv 3) (pv 4) set_list))))))) vQ) (zI (zU (pv 3)))))),?_⟩
 refine⟨(by show 1≤sizeLine;decide),fun lo hlo=>⟨_,rfl,lo,_,_,rfl,rfl,zD,by omega,by omega,(by show 1*_≤_;exact zAu (by omega)),fun p hp=>?_⟩⟩
 rw[rep0]
 have smP:zN H (upd (upd H lo (.lst [V.int 0])) p (.lst ((List.replicate tot (0:Int)).map V.int))):=zG (zG (zN.refl _) hlo) hp
 have pn:H p=none:=(zG (zN.refl _) hlo).free hp
 have hP:upd (upd H lo (.lst [V.int 0])) p (.lst ((List.replicate tot (0:Int)).map V.int)) p=some (.lst ((List.replicate tot (0:Int)).map V.int)):=zD
 generalize upd (upd H lo (.lst [V.int 0])) p (.lst ((List.replicate tot (0:Int)).map V.int))=H0 at smP hP ⊢
 have rp:r≠p:=zY h1 pn
 have cell:∀ (x:Int),-(ms:Int)≤x%(2*ms+1)-ms∧x%(2*ms+1)-ms≤ms:=fun x=>by
  have a:=Int.emod_nonneg x (show (2*(ms:Int)+1)≠0 by omega)
  have b:=Int.emod_lt_of_pos x (show (0:Int) < 2*ms+1 by omega)
  omega
 refine⟨_,rfl,r,_,rfl,.inl (SqL.of (smP _ _ h1)),cs.length,by rw[List.length_map],by omega,by omega,jY (n:=cs.length) (fun i σ H2=>zN H H2∧∃ (ns:List Int)(o1 o2 o3:Option V),σ=[some (.ref r),some (.int tot),some (.int ms),some (.ref p),o1,o2,o3]∧H2 p=some (.lst (ns.map V.int))∧ns.length=tot∧∀ x∈ns,x.natAbs≤i*ms) ⟨smP,_,none,none,none,rfl,hP,List.length_replicate,fun x hx=>by rw[(List.mem_replicate.mp hx).2];exact Nat.zero_le _⟩ ?_ ?_⟩
 ·rintro i σ H2 hi ⟨sm,ns,o1,o2,o3,rfl,hn,ln,bn⟩
  obtain⟨j,hj⟩:∃ j:Nat,j=i%tot:=⟨_,rfl⟩
  have jt:j < tot:=by rw[hj];exact Nat.mod_lt _ (by omega)
  have ej:(i:Int)%(tot:Int)=(j:Nat):=by rw[hj];exact (Int.natCast_emod i tot).symm
  refine⟨_,rfl,_,rfl,_,_,rfl,rfl,(show (0:Int) < tot by omega),?_⟩
  dsimp only
  rw[ej]
  have cg:atI (ns.map V.int) (j:Int)=some (.int (Lt.g ns j)):=v4 (by rw[List.getElem?_map,Rx.wI (by omega)];rfl)
  have cc:atI (cs.map V.int) (i:Int)=some (.int (Lt.g cs i)):=v4 (by rw[List.getElem?_map,Rx.wI (by omega)];rfl)
  refine⟨_,rfl,_,rfl,p,_,_,_,rfl,rfl,SqL.of hn,cg,_,rfl,_,rfl,r,_,_,_,rfl,rfl,SqL.of (sm _ _ h1),cc,_,rfl,_,_,rfl,rfl,wO (by decide) (by decide),_,_,rfl,rfl,_,_,rfl,rfl,(show (0:Int) < 2*ms+1 by omega),_,_,rfl,rfl,_,rfl,_,_,rfl,rfl,_,rfl,_,rfl,p,_,_,_,rfl,rfl,hn,zDx (by omega) (by rw[List.length_map];omega),?_⟩
  rw[Int.toNat_natCast,set_int]
  refine⟨vT sm pn,_,_,_,_,rfl,zD,by rw[List.length_set,ln],fun x hx=>?_⟩
  rw[Nat.succ_mul]
  rcases List.mem_or_eq_of_mem_set hx with z | z
  ·have:=bn x z;omega
  ·have c:=cell (Lt.g cs i)
   have b:=bn _ (Rx.j8 (l:=ns) (i:=j) (by omega))
   rw[z]
   omega
 ·rintro σ H2 ⟨sm,ns,o1,o2,o3,rfl,hn,ln,bn⟩
  have bn':∀ x∈ns,x.natAbs≤63*ms:=fun x hx=>Nat.le_trans (bn x hx) (Nat.mul_le_mul_right _ lc)
  refine⟨_,rfl,r,_,rfl,.inl (SqL.of (sm _ _ h1)),_,_,rfl,rfl,_,rfl,?_⟩
  refine zCs (fun c=>?_) (fun c=>⟨_,rfl,q p H2 ns sm pn hn ln bn'⟩)
  have pos:0 < cs.length:=by have:=dec c;rw[List.length_map] at this;omega
  refine⟨_,rfl,r,_,rfl,.inl (SqL.of (sm _ _ h1)),_,rfl,_,_,rfl,⟨by omega,by rw[List.length_map];omega,by omega,by omega⟩,?_⟩
  rw[List.length_map]
  obtain⟨nn,hnn⟩:∃ nn:Nat,nn=((tot:Int)-(cs.length:Int)).toNat:=⟨_,rfl⟩
  rw[← hnn]
  refine for_range (lo:=(cs.length:Int)) (n:=nn) (fun i σ H2=>zN H H2∧∃ (ns:List Int)(o1 o2 o3:Option V),σ=[some (.ref r),some (.int tot),some (.int ms),some (.ref p),o1,o2,o3]∧H2 p=some (.lst (ns.map V.int))∧ns.length=tot∧∀ x∈ns,x.natAbs≤63*ms) ⟨sm,ns,o1,o2,o3,rfl,hn,ln,bn'⟩ ?_ ?_
  ·rintro i σ H3 hi ⟨sm,ns,o1,o2,o3,rfl,hn,ln,bn⟩
   obtain⟨kk,hkk⟩:∃ kk:Nat,kk=cs.length+i:=⟨_,rfl⟩
   have ek:(cs.length:Int)+(i:Int)=(kk:Nat):=by omega
   rw[ek]
   have kt:kk < tot:=by omega
   obtain⟨j,hj⟩:∃ j:Nat,j=kk%cs.length:=⟨_,rfl⟩
   have jt:j < cs.length:=by rw[hj];exact Nat.mod_lt _ (by omega)
   have ej:(kk:Int)%(cs.length:Int)=(j:Nat):=by rw[hj];exact (Int.natCast_emod kk cs.length).symm
   have cc:atI (cs.map V.int) ((kk:Int)%((cs.map V.int).length:Int))=some (.int (Lt.g cs j)):=by
    rw[List.length_map,ej];exact v4 (by rw[List.getElem?_map,Rx.wI (by omega)];rfl)
   refine⟨_,rfl,_,rfl,_,rfl,r,_,rfl,.inl (SqL.of (sm _ _ h1)),_,_,rfl,rfl,(by rw[List.length_map];omega),r,_,_,_,rfl,rfl,SqL.of (sm _ _ h1),cc,_,_,rfl,rfl,(show (0:Int) < 2147483629 by decide),_,rfl,_,_,rfl,rfl,?_⟩
   have m1:=Int.emod_nonneg (Lt.g cs j) (show (2147483629:Int)≠0 by decide)
   have m2:=Int.emod_lt_of_pos (Lt.g cs j) (show (0:Int) < 2147483629 by decide)
   obtain⟨nu,hnu⟩:∃ nu:Int,nu=Lt.g cs j%2147483629+(kk:Int):=⟨_,rfl⟩
   dsimp only
   rw[← hnu]
   have m3:=Int.emod_nonneg (nu*nu) (show (2147483587:Int)≠0 by decide)
   have m4:=Int.emod_lt_of_pos (nu*nu) (show (0:Int) < 2147483587 by decide)
   refine⟨_,rfl,_,rfl,_,_,rfl,rfl,zEi (by omega) (by omega),_,_,rfl,rfl,(show (0:Int) < 2147483587 by decide),_,_,rfl,rfl,zEi (by omega) (by omega),_,_,rfl,rfl,(show (0:Int) < 2147483647 by decide),?_⟩
   dsimp only
   obtain⟨nv,hnv⟩:∃ nv:Int,nv=nu*nu%2147483587*48271%2147483647:=⟨_,rfl⟩
   rw[← hnv]
   refine⟨_,rfl,_,rfl,_,_,rfl,rfl,wO (by decide) (by decide),_,_,rfl,rfl,_,_,rfl,rfl,(show (0:Int) < 2*ms+1 by omega),_,rfl,_,_,rfl,rfl,_,rfl,_,rfl,p,_,_,_,rfl,rfl,hn,zDx (by omega) (by rw[List.length_map];omega),?_⟩
   rw[Int.toNat_natCast,set_int]
   refine⟨vT sm pn,_,_,_,_,rfl,zD,by rw[List.length_set,ln],fun x hx=>?_⟩
   rcases List.mem_or_eq_of_mem_set hx with z | z
   ·exact bn x z
   ·have c:=cell nv
    rw[z]
    omega
  ·rintro σ H3 ⟨sm,ns,o1,o2,o3,rfl,hn,ln,bn⟩
   exact⟨_,rfl,q p H3 ns sm pn hn ln bn⟩
def Bm (m w ms:Nat):Prop:=(w≤2∧ms≤10^12)∨(m≤5∧ms≤10^12)∨(w≤6∧m≤12∧ms≤10^6)
theorem bm_rco {m w ms:Nat}(h:Bm m w ms):∃ C Cg,63*ms≤C∧C≤Cg∧10^13*ms≤Cg∧Rco m w C Cg:=by
 rcases h with ⟨a,b⟩ | ⟨a,b⟩ | ⟨a,_,b⟩
 ·exact⟨10^64,10^64,by omega,by decide,by omega,rco_of (by decide) (by decide) Rx.chkA (by decide) fun k _ _=>by omega⟩
 ·exact⟨10^16,10^30,by omega,by decide,by omega,rco_of (by decide) (by decide) Rx.chkB (by decide) fun k _ _=>by omega⟩
 ·exact⟨10^10,10^24,by omega,by decide,by omega,rco_of (by decide) (by decide) Rx.chkC (by decide) fun k _ _=>by omega⟩
def spCb (K:PySem.W.Frag):Sp:=fun vs H Q _=>∃ (r:Addr)(cs:List Int)(m:Nat),vs=[.ref r,.int m]∧H r=some (.lst (cs.map V.int))∧cs.length≤63∧m≤420∧∀ t H' (ns:List Int),zN H H'→H' t=some (.lst (ns.map V.int))→ns.length=m→(∀ x∈ns,x.natAbs≤10^9)→Q (.ref t) H'
theorem zEf (T:Txt K mg C_Frame t_LEAD_BITS t_FIRST_PRIME):Df P w K mg base 1 "_law_counts_by" ["cells","many"] (spCb K):=by
 refine T.d_law_counts_by.ok zAk (fun vs H Q E h=>?_) (fun f cdv A outer s H vs Q E hr h=>?_)
 ·obtain⟨_,_,_,rfl,_⟩:=h;rfl
 obtain⟨r,cs,m,rfl,h1,lc,m4,q⟩:=h
 have nd:=zAk.nd
 refine⟨_,(zB (zM (i:=2) nd rfl (Or.inl rfl) (zK zEx (wV (zA zE zC)) (pv 1))) (zB (wJ (vF op_gt (zT zS (by rfl) T.b_len L2.v6 (zA (pv 0) zC)) zE (vM _)) (zI (wM PassesOwn.never rfl (wN (by rfl) T.b_range (zA (pv 1) zC)) (zL (i:=3) nd rfl (Or.inl rfl)) (zB (zM (i:=4) nd rfl (Or.inl rfl) (zK vU (zK vG (zK vR (vC vP (pv 0) (zK vR (zK vU (zK vG zE (pv 3)) zE) (zT zS (by rfl) T.b_len L2.v6 (zA (pv 0) zC))) (fun _ _=>rfl)) zE) zE) (zK vG (pv 3) (pv 3)))) (zI (zCr (zK jD (zK vR (pv 4) (zK vU (zK vG zE (zK zGp zE zE)) zE)) (zK zGp zE zE)) (zDl (pv 2) (pv 3) set_list)))))) vQ) (zI (zU (pv 2))))),?_⟩
 refine⟨(by show 1≤sizeLine;decide),fun lo hlo=>⟨_,rfl,lo,_,_,rfl,rfl,zD,by omega,by omega,(by show 1*_≤_;exact zAu (by omega)),fun p hp=>?_⟩⟩
 rw[rep0]
 have smP:zN H (upd (upd H lo (.lst [V.int 0])) p (.lst ((List.replicate m (0:Int)).map V.int))):=zG (zG (zN.refl _) hlo) hp
 have pn:H p=none:=(zG (zN.refl _) hlo).free hp
 have hP:upd (upd H lo (.lst [V.int 0])) p (.lst ((List.replicate m (0:Int)).map V.int)) p=some (.lst ((List.replicate m (0:Int)).map V.int)):=zD
 generalize upd (upd H lo (.lst [V.int 0])) p (.lst ((List.replicate m (0:Int)).map V.int))=H0 at smP hP ⊢
 have b0:∀ x∈List.replicate m (0:Int),x.natAbs≤10^9:=fun x hx=>by rw[(List.mem_replicate.mp hx).2];exact Nat.zero_le _
 refine⟨_,rfl,r,_,rfl,.inl (SqL.of (smP _ _ h1)),_,_,rfl,rfl,_,rfl,?_⟩
 refine zCs (fun c=>?_) (fun c=>⟨_,rfl,q p H0 _ smP hP List.length_replicate b0⟩)
 have pos:0 < cs.length:=by have:=dec c;rw[List.length_map] at this;omega
 have p9:(10:Int)^(9:Int).toNat=1000000000:=by decide
 refine⟨_,rfl,m,rfl,by omega,by omega,jY (n:=m) (fun i σ H2=>zN H H2∧∃ (ns:List Int)(o1 o2:Option V),σ=[some (.ref r),some (.int m),some (.ref p),o1,o2]∧H2 p=some (.lst (ns.map V.int))∧ns.length=m∧∀ x∈ns,x.natAbs≤10^9) ⟨smP,_,none,none,rfl,hP,List.length_replicate,b0⟩ ?_ ?_⟩
 ·rintro i σ H2 hi ⟨sm,ns,o1,o2,rfl,hn,ln,bn⟩
  obtain⟨j,hj⟩:∃ j:Nat,j=(5*i+2)%cs.length:=⟨_,rfl⟩
  have jt:j < cs.length:=by rw[hj];exact Nat.mod_lt _ (by omega)
  have ej:(5*(i:Int)+2)%((cs.map V.int).length:Int)=(j:Nat):=by
   rw[List.length_map,hj,Int.natCast_emod,Int.natCast_add,Int.natCast_mul];rfl
  have cc:atI (cs.map V.int) ((5*(i:Int)+2)%((cs.map V.int).length:Int))=some (.int (Lt.g cs j)):=by
   rw[ej];exact v4 (by rw[List.getElem?_map,Rx.wI (by omega)];rfl)
  have m1:=Int.emod_nonneg (Lt.g cs j) (show (999999937:Int)≠0 by decide)
  have m2:=Int.emod_lt_of_pos (Lt.g cs j) (show (0:Int) < 999999937 by decide)
  refine⟨_,rfl,_,rfl,_,_,rfl,rfl,wO (by omega) (by omega),_,_,rfl,rfl,_,rfl,r,_,rfl,.inl (SqL.of (sm _ _ h1)),_,_,rfl,rfl,(by rw[List.length_map];omega),r,_,_,_,rfl,rfl,SqL.of (sm _ _ h1),cc,_,_,rfl,rfl,(show (0:Int) < 999999937 by decide),_,_,rfl,rfl,zEi (by omega) (by omega),_,rfl,_,rfl,_,_,rfl,rfl,wO (by omega) (by omega),_,_,rfl,rfl,?_⟩
  dsimp only
  obtain⟨nu,hnu⟩:∃ nu:Int,nu=Lt.g cs j%999999937*48271+(i:Int)*(i:Int):=⟨_,rfl⟩
  rw[← hnu]
  have n1:=Int.emod_nonneg nu (show (2*(10:Int)^(9:Int).toNat+1)≠0 by rw[p9];decide)
  have n2:=Int.emod_lt_of_pos nu (show (0:Int) < 2*(10:Int)^(9:Int).toNat+1 by rw[p9];decide)
  refine⟨_,rfl,_,_,rfl,rfl,⟨by decide,by decide,by decide⟩,_,_,rfl,rfl,wO (by decide) (by decide),_,_,rfl,rfl,_,_,rfl,rfl,(show (0:Int) < 2*(10:Int)^(9:Int).toNat+1 by rw[p9];decide),_,_,rfl,rfl,⟨by decide,by decide,by decide⟩,_,_,rfl,rfl,_,rfl,_,rfl,p,_,_,_,rfl,rfl,hn,zDx (by omega) (by rw[List.length_map];omega),?_⟩
  rw[Int.toNat_natCast,set_int]
  refine⟨vT sm pn,_,_,_,rfl,zD,by rw[List.length_set,ln],fun x hx=>?_⟩
  rcases List.mem_or_eq_of_mem_set hx with z | z
  ·exact bn x z
  ·rw[z]
   rw[p9] at n1 n2 ⊢
   omega
 ·rintro σ H2 ⟨sm,ns,o1,o2,rfl,hn,ln,bn⟩
  exact⟨_,rfl,q p H2 ns sm hn ln bn⟩
theorem ok_law (T:Txt K mg C_Frame t_LEAD_BITS t_FIRST_PRIME){f:Addr}{fd:FuncData}(F:Fun K "law" "law" s_law f fd):FnOk P w K mg base CX0 13 f fd ["script"] (spLaw K):=by
 have D_law_cell_at:=zGb (P:=P) (w:=w) (base:=base) T
 have D_law_shape:=ok_law_shape (P:=P) (w:=w) (base:=base) T
 have D_law_numbers_by:=zDa (P:=P) (w:=w) (base:=base) T
 have D_law_counts_by:=zEf (P:=P) (w:=w) (base:=base) T
 have D_law_sum:=zGd (P:=P) (w:=w) (base:=base) T
 have D_law_way:=ok_law_way (P:=P) (w:=w) (base:=base) T
 have D_reach:=ok_reach (P:=P) (w:=w) (base:=base) T
 refine F.ok sc_law (fun vs H Q E h=>?_) (fun cdv A outer s H vs Q E hr h=>?_)
 ·obtain⟨_,_,rfl,_⟩:=h;rfl
 obtain⟨a,ns,rfl,hS,h63,q⟩:=h
 have nd:=sc_law.nd
 refine⟨_,(zB (zCr (zQ D_law_shape (hr.mono (by decide)) (by rfl) (zA (zQ D_law_cell_at (hr.mono (by decide)) (by rfl) (zA (pv 0) (zA zE zC))) zC)) (wB rfl (zO (zL (i:=1) nd rfl (Or.inl rfl)) (zO (zL (i:=2) nd rfl (Or.inr rfl)) vV)))) (zB (zM (i:=3) nd rfl (Or.inl rfl) (vC vP (wV (zA zE (zA zE (zA (zK zGp zE zE) (zA (zK zGp zE zE) zC))))) (zK vR (zQ D_law_cell_at (hr.mono (by decide)) (by rfl) (zA (pv 0) (zA zE zC))) zE) (fun _ _=>rfl))) (pss_mid (wJ (PW.pt (pw_and (vF op_gt (pv 1) zE (vM _)) (pw_and1 (vF op_gt (pv 2) zE (vM _))))) (zI (zM (i:=3) nd rfl (Or.inl rfl) (zT (call_min2 rfl) (by rfl) T.b_min L2.bi_min (zA (pv 3) (zA (zK zGp zE zE) zC))))) vQ) (zB (zM (i:=4) nd rfl (Or.inr rfl) (zQ D_law_numbers_by (hr.mono (by decide)) (by rfl) (zA (j6 zCz (pv 0) (wU zE) (wU zE)) (zA (zT (zFm rfl) (by rfl) T.b_max L2.bi_max (zA zE (zA (zK vG (pv 1) (pv 2)) zC))) (zA (pv 3) zC))))) (zB (zM (i:=5) nd rfl (Or.inr rfl) (zZ (cap:=[("numbers",4),("wide",2)]) (tgs:=["k"])  rfl rfl rfl (by decide +kernel) (by decide +kernel) (vI (by rfl)) (zV rfl (zV rfl vK)) (zX ⟨rfl,Or.inl rfl,Or.inl rfl,_,rfl⟩ (zX ⟨rfl,Or.inl rfl,Or.inl rfl,_,rfl⟩ vH)) (vB (by decide)) (wN (by rfl) T.b_range (zA (pv 1) zC)) (fun C s H fp=>⟨(zL (i:=2) (show (["numbers","wide","k"]:List Str).Nodup by decide +kernel) rfl (Or.inl rfl) (Or.inr rfl)),vJ,(j6 (sl_listK (K:=K) rfl) (pv 0) (wU (zK vG (pv 1) (pv 2))) (wU (zK vU (zK vG (pv 1) (pv 2)) (pv 1))))⟩))) (zB (zM (i:=6) nd rfl (Or.inr rfl) (zQ D_law_counts_by (hr.mono (by decide)) (by rfl) (zA (j6 zCz (pv 0) (wU zE) (wU zE)) (zA (pv 1) zC)))) (zB (ps_setcomp1 (kx:="k") (cap:=[("counts",6),("steps",5)]) (tgs:=["k"]) (i:=7) nd rfl (Or.inl rfl) rfl rfl rfl (by decide +kernel) (by decide +kernel) (fun _=>rfl) (fun _=>rfl) (by decide +kernel) (vI (by rfl)) (zV rfl (zV rfl vK)) (zX ⟨rfl,Or.inl rfl,Or.inl rfl,_,rfl⟩ (zX ⟨rfl,Or.inl rfl,Or.inl rfl,_,rfl⟩ vH)) (vB (by decide)) (wN (by rfl) T.b_range (zA (pv 2) zC)) (fun C s H fp=>⟨(zL (i:=2) (show (["counts","steps","k"]:List Str).Nodup by decide +kernel) rfl (Or.inr rfl) (Or.inl rfl)),vJ,(zQ D_law_sum (hr.mono (by decide)) (by rfl) (zA (zZ (cap:=[("k",2)]) (tgs:=["step"])  rfl rfl rfl (by decide +kernel) (by decide +kernel) (vI (by rfl)) (zV rfl vK) (zX ⟨rfl,Or.inl rfl,Or.inl rfl,_,rfl⟩ vH) (vB (by decide)) (pi_listF (K:=K) rfl (pv 1)) (fun C s H fp=>⟨(zL (i:=1) (show (["k","step"]:List Str).Nodup by decide +kernel) rfl (Or.inl rfl) (Or.inr rfl)),vJ,(vC (zBb (K:=K) rfl) (pv 1) (pv 0) (fun _ _=>rfl))⟩)) (zA (pv 0) zC)))⟩)) (zB (zM (i:=8) nd rfl (Or.inl rfl) (zQ D_reach (hr.mono (by decide)) (by rfl) (zA (zZ (cap:=[]) (tgs:=["step"])  rfl rfl rfl (by decide +kernel) (by decide +kernel) (vI (by rfl)) vK vH (vB (by decide)) (vS (pv 5)) (fun C s H fp=>⟨(zL (i:=0) (show (["step"]:List Str).Nodup by decide +kernel) rfl (Or.inl rfl) (Or.inr rfl)),vJ,(pe_callTy (call_list_ofF (K:=K) rfl) (by rfl) T.b_list L2.bi_list (zA (pv 0) zC))⟩)) (zA (pe_callTy zDk (by rfl) T.b_list L2.bi_list (zA (pv 7) zC)) zC)))) (zI (zU (zQ D_law_way (hr.mono (by decide)) (by rfl) (zA (pv 8) (zA (pv 5) (zA (pv 7) zC)))))))))))))),?_⟩
 rw[show start ["script","many","wide","most","numbers","steps","counts","goal","found"] [V.ref a]=[some (.ref a),none,none,none,none,none,none,none,none] from rfl]
 refine⟨_,rfl,a,ns,0,rfl,hS,Int.le_refl 0,fun c0=>⟨c0,rfl,fun t H0 many wide sm0 ht shp=>?_⟩⟩
 refine⟨t,_,rfl,SqT.of ht,rfl,_,_,rfl,_,_,rfl,rfl,?_⟩
 try dsimp only [jG,List.set_cons_succ,List.set_cons_zero]
 have hS0:=sm0.seq hS
 have m40:many≤40:=by rcases shp with z | z | z <;> omega
 have w60:wide≤60:=by rcases shp with z | z | z <;> omega
 have w1:1≤wide:=by rcases shp with z | z | z <;> omega
 have mw:many*wide≤300:=by
  rcases shp with z | z | z
  ·exact Nat.mul_le_mul (show many≤5 by omega) (show wide≤60 by omega)
  ·exact Nat.le_trans (Nat.mul_le_mul (show many≤40 by omega) (show wide≤2 by omega)) (by decide)
  ·exact Nat.le_trans (Nat.mul_le_mul (show many≤12 by omega) (show wide≤6 by omega)) (by decide)
 -- most
 refine⟨_,_,rfl,rfl,⟨by decide,by decide,by decide⟩,_,_,rfl,rfl,⟨by decide,by decide,by decide⟩,(by show 4≤sizeLine;decide),fun ml hml=>?_⟩
 have sm1:=zG (o:=.lst [V.int 2,V.int 9,V.int (10^6),V.int (10^12)]) (zN.refl H0) hml
 have hml1:upd H0 ml (.lst [V.int 2,V.int 9,V.int (10^6),V.int (10^12)]) ml=some (.lst [V.int 2,V.int 9,V.int (10^6),V.int (10^12)]):=zD
 have eml:(HO.lst [V.int 2,V.int 9,(fun (i j:Int)=>V.int (i^j.toNat)) 10 6,(fun (i j:Int)=>V.int (i^j.toNat)) 10 12])=.lst [V.int 2,V.int 9,V.int (10^6),V.int (10^12)]:=rfl
 rw[eml]
 generalize upd H0 ml (.lst [V.int 2,V.int 9,V.int (10^6),V.int (10^12)])=H1 at sm1 hml1 ⊢
 have hS1:=sm1.seq hS0
 refine⟨_,rfl,a,ns,1,rfl,hS1,by decide,fun c1=>⟨_,_,rfl,rfl,(show (0:Int) < 4 by decide),?_⟩⟩
 obtain⟨m0,hm0,bm0⟩:∃ m0:Nat,atI [V.int 2,V.int 9,V.int (10^6),V.int (10^12)] (c1%4)=some (.int m0)∧m0≤10^12:=by
  have r0:=Int.emod_nonneg c1 (show (4:Int)≠0 by decide)
  have r1:=Int.emod_lt_of_pos c1 (show (0:Int) < 4 by decide)
  have:c1%4=0∨c1%4=1∨c1%4=2∨c1%4=3:=by omega
  rcases this with z | z | z | z <;> rw[z]
  ·exact⟨2,rfl,by decide⟩
  ·exact⟨9,rfl,by decide⟩
  ·exact⟨10^6,rfl,by decide⟩
  ·exact⟨10^12,rfl,by decide⟩
 refine⟨ml,_,_,_,rfl,rfl,SqL.of hml1,hm0,?_⟩
 try dsimp only [jG,List.set_cons_succ,List.set_cons_zero]
 refine⟨fun σ H2=>H1=H2∧∃ ms:Nat,σ=[some (.ref a),some (.int many),some (.int wide),some (.int ms),none,none,none,none,none]∧Bm many wide ms,?_,?_⟩
 ·have sk:¬ (5 < many∧2 < wide)→Bm many wide m0:=fun z=>by
   rcases Nat.lt_or_ge 5 many with u | u
   ·exact .inl ⟨by omega,bm0⟩
   ·exact .inr (.inl ⟨u,bm0⟩)
  refine⟨_,rfl,_,_,rfl,rfl,_,rfl,zCs (fun c=>?_) (fun c=>⟨rfl,m0,rfl,sk fun z=>c (decide_eq_true (by omega))⟩)⟩
  have c5:=dec c
  refine⟨_,rfl,_,_,rfl,rfl,_,rfl,zCs (fun c'=>?_) (fun c'=>⟨rfl,m0,rfl,sk fun z=>c' (decide_eq_true (by omega))⟩)⟩
  have c2:=dec c'
  have w6:wide≤6:=by rcases shp with z | z | z <;> omega
  have m12:many≤12:=by rcases shp with z | z | z <;> omega
  refine⟨_,rfl,_,_,rfl,rfl,⟨by decide,by decide,by decide⟩,_,_,rfl,rfl,min m0 (10^6),?_,.inr (.inr ⟨w6,m12,Nat.min_le_right ..⟩)⟩
  have e:(if (10:Int)^(6:Int).toNat < (m0:Int) then (10:Int)^(6:Int).toNat else (m0:Int))=((min m0 (10^6):Nat):Int):=by
   have p:(10:Int)^(6:Int).toNat=1000000:=by decide
   rw[p]
   have q:(10:Nat)^6=1000000:=by decide
   rw[q]
   split <;> omega
  rw[← e];rfl
 rintro σ H2 ⟨rfl,ms,rfl,bm⟩
 have msz:ms≤10^12:=by rcases bm with z | z | z <;> omega
 -- numbers
 refine⟨_,rfl,_,rfl,_,rfl,a,_,rfl,hS1,fun sl hsl=>?_⟩
 obtain⟨cs,ecs,lcs⟩:=cut_map ns (some 2) (some 82)
 rw[ecs]
 have sm2:=zG (o:=.lst (cs.map V.int)) (zN.refl H1) hsl
 have hsl2:upd H1 sl (.lst (cs.map V.int)) sl=some (.lst (cs.map V.int)):=zD
 generalize upd H1 sl (.lst (cs.map V.int))=H2 at sm2 hsl2 ⊢
 obtain⟨tt,htt⟩:∃ tt:Nat,tt=max 1 (many*wide):=⟨_,rfl⟩
 have emx:(if (1:Int) < (many:Int)*(wide:Int) then (many:Int)*(wide:Int) else 1)=(tt:Nat):=by
  have e:(many:Int)*(wide:Int)=((many*wide:Nat):Int):=(Int.natCast_mul ..).symm
  rw[htt,e]
  split <;> omega
 have tt1:1≤tt∧tt≤300∧many*wide≤tt:=by omega
 refine⟨_,rfl,_,rfl,_,_,rfl,rfl,wO (by omega) (by omega),_,_,rfl,_,rfl,sl,cs,tt,ms,congrArg (fun z=>[V.ref sl,V.int z,V.int ms]) emx,hsl2,by omega,by omega,by omega,Nat.le_trans msz (by decide),fun nu H3 nums sm3 _ hn ln bn=>?_⟩
 try dsimp only [jG,List.set_cons_succ,List.set_cons_zero]
 -- steps
 refine⟨_,rfl,many,rfl,by omega,by omega,?_⟩
 obtain⟨st0,hst0⟩:∃ st0:List (List Int),st0=(List.range many).map fun i=>(nums.take (wide*i+wide)).drop (wide*i):=⟨_,rfl⟩
 have iw:∀ i,i < many→wide*i+wide≤nums.length:=fun i hi=>by
  have:=Nat.mul_le_mul_left wide (show i+1≤many by omega)
  rw[Nat.mul_add,Nat.mul_one,Nat.mul_comm wide many] at this
  omega
 refine comp_toN (n:=many) st0 (by rw[hst0,List.length_map,List.length_range]) (by omega) ?_ ?_
 ·intro i H5 hi sm5 R kk
  have iw':=iw i hi
  have e1:(wide:Int)*(i:Int)=((wide*i:Nat):Int):=(Int.natCast_mul ..).symm
  have e2:(wide:Int)*(i:Int)+wide=((wide*i+wide:Nat):Int):=by rw[e1,Int.natCast_add]
  have ecut:cutV (nums.map V.int) (some ((wide:Int)*(i:Int))) (some ((wide:Int)*(i:Int)+wide))=((nums.take (wide*i+wide)).drop (wide*i)).map V.int:=by
   rw[e2,e1,cut_mid _ (by omega) iw']
  refine⟨_,rfl,_,rfl,_,rfl,_,_,rfl,rfl,wO (by omega) (by omega),_,rfl,_,rfl,_,rfl,_,_,rfl,rfl,wO (by omega) (by omega),_,rfl,_,_,rfl,rfl,_,rfl,nu,_,rfl,SqL.of (sm5 _ _ hn),fun c hc=>?_⟩
  refine kk _ c _ (zG (zN.refl _) hc) (by rw[hst0,List.getElem?_map,List.getElem?_range hi];rfl) ?_
  rw[zD]
  exact congrArg (fun l=>some (HO.lst l)) ecut
 intro s0 H5 sm5 _ hs0
 try dsimp only [jG,List.set_cons_succ,List.set_cons_zero]
 have ls0:st0.length=many:=by rw[hst0,List.length_map,List.length_range]
 have bs0:∀ y∈st0,y.length=wide∧∀ z∈y,z.natAbs≤63*ms:=fun y hy=>by
  rw[hst0] at hy
  obtain⟨i,hi,rfl⟩:=List.mem_map.mp hy
  have iw':=iw i (List.mem_range.mp hi)
  exact⟨by rw[List.length_drop,List.length_take];omega,fun z hz=>bn z (List.mem_of_mem_take (List.mem_of_mem_drop hz))⟩
 have smA:=(sm2.trans sm3).trans sm5
 have hS5:=smA.seq hS1
 -- counts
 refine⟨_,rfl,_,rfl,_,rfl,a,_,rfl,hS5,fun sl' hsl'=>?_⟩
 rw[ecs]
 have sm6:=zG (o:=.lst (cs.map V.int)) (zN.refl H5) hsl'
 have hsl6:upd H5 sl' (.lst (cs.map V.int)) sl'=some (.lst (cs.map V.int)):=zD
 generalize upd H5 sl' (.lst (cs.map V.int))=H6 at sm6 hsl6 ⊢
 refine⟨_,rfl,sl',cs,many,rfl,hsl6,by omega,by omega,fun ct H7 cts sm7 hct lct bct=>?_⟩
 try dsimp only [jG,List.set_cons_succ,List.set_cons_zero]
 have hs7:=(hs0.same sm6).same sm7
 obtain⟨as,h1,pa⟩:=id hs7
 have la:=zP pa
 obtain⟨C,Cg,cC,CC,cG,rc⟩:=bm_rco bm
 rw[← ls0] at rc
 have bst:∀ y∈st0,∀ z∈y,z.natAbs≤C:=fun y hy z hz=>Nat.le_trans ((bs0 y hy).2 z hz) cC
 have bN:∀ x:Int,x.natAbs≤Cg→x.natAbs < 2^9000:=fun x hx=>Nat.lt_of_le_of_lt hx rc.CN
 have lwN:∀ y∈st0,y.length=wide∧Bd 9000 y:=fun y hy=>⟨(bs0 y hy).1,fun z hz=>bN z (Nat.le_trans (bst y hy z hz) CC)⟩
 have ctN:Bd 100 cts:=fun z hz=>Nat.lt_of_le_of_lt (bct z hz) (by decide)
 -- goal
 obtain⟨go,hgo⟩:∃ go:List Int,go=(List.range wide).map fun k=>Rx.dot (st0.map fun row=>Lt.g row k) cts:=⟨_,rfl⟩
 have lgo:go.length=wide:=by rw[hgo,List.length_map,List.length_range]
 refine⟨_,rfl,wide,rfl,by omega,by omega,?_⟩
 refine comp_toM (lo:=0) (n:=wide) go lgo (by omega) ?_ ?_
 ·intro k H8 hk sm8 R kk
  rw[Int.zero_add]
  refine⟨_,rfl,s0,rfl,⟨_,SqL.of (sm8 _ _ h1)⟩,?_⟩
  refine v3 (K:=K) (xs:=as.map V.ref) (st0.map fun row=>Lt.g row k) (by rw[List.length_map,List.length_map,la]) (by rw[List.length_map];omega) (SqL.of (sm8 _ _ h1)) ?_ ?_
  ·intro i x H9 hx sm9 R' kk'
   obtain⟨b,row,rfl,hb,hrow,hh⟩:=wX pa hx
   have rl:=bs0 row (List.mem_of_getElem? hrow)
   exact⟨_,rfl,_,rfl,b,_,_,_,rfl,rfl,SqL.of (sm9 _ _ (sm8 _ _ hh)),v4 (by rw[List.getElem?_map,Rx.wI (by omega)];rfl),kk' _ _ (zN.refl _) (by rw[List.getElem?_map,hrow];rfl)⟩
  intro c1 H9 sm9 _ h9
  have sm89:=sm8.trans sm9
  refine⟨_,rfl,c1,ct,st0.map (fun row=>Lt.g row k),cts,9000,100,rfl,h9,sm89 _ _ hct,by rw[List.length_map,ls0,lct],fun y hy=>?_,ctN,by decide,by decide,fun H10 sm10=>?_⟩
  ·obtain⟨row,hr,rfl⟩:=List.mem_map.mp hy
   have rl:=lwN row hr
   exact rl.2 _ (Rx.j8 (by omega))
  exact kk H10 _ (sm9.trans sm10) (by rw[hgo,List.getElem?_map,List.getElem?_range hk];rfl)
 intro g2 H8 sm8 _ hg8
 try dsimp only [jG,List.set_cons_succ,List.set_cons_zero]
 have hW:Rx.ShW wide st0 go cts:=fun c hc=>by
  rw[Rx.wH (l:=go) (v:=Rx.dot (st0.map fun row=>Lt.g row c) cts) (by rw[hgo,List.getElem?_map,List.getElem?_range hc];rfl),Rx.zAr (n:=st0.length) (by rw[List.length_map]) (by rw[lct,ls0])]
  refine Ld.zH fun j hj=>?_
  rw[Int.toNat_natCast,Rx.wH (l:=st0.map fun row=>Lt.g row c) (v:=Lt.g (st0.getD j []) c) (by rw[List.getElem?_map,Rx.wD hj];rfl),Int.mul_comm]
 have bgo:∀ z∈go,z.natAbs≤Cg:=fun z hz=>by
  obtain⟨c,hc,e⟩:=List.getElem_of_mem hz
  have ec:z=Lt.g go c:=by rw[← e];exact (Rx.wH (List.getElem?_eq_getElem hc)).symm
  rw[ec,← hW c (by omega)]
  have b:=Mx.S_bd (k:=st0.length) (F:=fun j=>Lt.g cts j.toNat*Lt.g (st0.getD j.toNat []) c) (B:=((10^9*(63*ms):Nat):Int)) fun j hj=>by
   rw[Int.toNat_natCast,Int.natAbs_mul]
   have rl:=bs0 _ (Rx.vZ hj)
   exact Int.ofNat_le.mpr (Nat.mul_le_mul (bct _ (Rx.j8 (by omega))) (rl.2 _ (Rx.j8 (by omega))))
  rw[← Int.natCast_mul] at b
  have b':=Int.ofNat_le.mp b
  have:st0.length*(10^9*(63*ms))≤40*(10^9*(63*ms)):=Nat.mul_le_mul_right _ (by omega)
  omega
 have hs8:=hs7.same sm8
 obtain⟨as8,h18,pa8⟩:=id hs8
 have la8:=zP pa8
 -- found
 refine⟨_,rfl,s0,rfl,⟨_,SqL.of h18⟩,?_⟩
 refine zCm (K:=K) (xs:=as8.map V.ref) st0 (by rw[List.length_map,la8]) (by rw[List.length_map];omega) (SqL.of h18) ?_ ?_
 ·intro i x H9 hx sm9 R kk
  obtain⟨b,row,rfl,hb,hrow,hh⟩:=wX pa8 hx
  exact⟨_,rfl,b,_,rfl,.inl (SqL.of (sm9 _ _ hh)),fun l hl=>kk _ l row (zG (zN.refl _) hl) hrow zD⟩
 intro hd H9 sm9 _ hhd
 refine⟨_,rfl,g2,_,rfl,.inl (SqL.of (sm9 _ _ hg8)),fun ai hai=>?_⟩
 have sm10:=zG (o:=.lst (go.map V.int)) (zN.refl H9) hai
 have hai10:upd H9 ai (.lst (go.map V.int)) ai=some (.lst (go.map V.int)):=zD
 generalize upd H9 ai (.lst (go.map V.int))=H10 at sm10 hai10 ⊢
 have sm810:=sm9.trans sm10
 have hs10:=hs8.same sm810
 have hg10:=sm810 _ _ hg8
 refine⟨hd,ai,st0,go,wide,9000,C,Cg,rfl,hhd.same sm10,hai10,fun y hy=>(bs0 y hy).1,lgo,by omega,by omega,by decide,by decide,rc.C1,rc.CC,rc.CN,bst,bgo,rc.num,rc.big,fun t wt H11 W s0 sm11 h11 h12 lW s1 bW sh=>?_,fun t ct H11 cnts sm11 h11 h12 lc bc sh=>?_⟩
 ·exact (Rx.sh_no (fun y hy=>(bs0 y hy).1) lgo lW hW sh).elim
 ·try dsimp only [jG,List.set_cons_succ,List.set_cons_zero]
  exact⟨_,rfl,_,rfl,_,rfl,t,s0,g2,st0,go,wide,9000,rfl,hs10.same sm11,sm11 _ _ hg10,lwN,lgo,by omega,by omega,by decide,.inl ⟨ct,cnts,h11,h12,lc,bc,sh,fun H12 _=>q H12⟩⟩
end
theorem all_mk {l:PySem.W.OpenLaw}{w:World}{K:PySem.W.Frag}{h:Heap}{mg:Str→Option Value}{fa:Addr}(X:K.In h)(G:h.Ns mainGlobals mg)(hfa:mg "law"=some (.ref fa))
  (a0:Fa K "divisor" zFl)
  (a1:Fa K "joint" s_joint)
  (a2:Fa K "euclid" s_euclid)
  (a3:Fa K "turned_on" zBv)
  (a4:Fa K "next_turn" zBs)
  (a5:Fa K "sure_turn" zCa)
  (a6:Fa K "hung" s_hung)
  (a7:Fa K "check_fit" zBz)
  (a8:Fa K "parts" s_parts)
  (a9:Fa K "prime_power" j9)
  (a10:Fa K "back" s_back)
  (a11:Fa K "weighed" zFs)
  (a12:Fa K "picked" s_picked)
  (a13:Fa K "spread" s_spread)
  (a14:Fa K "flipped" zEw)
  (a15:Fa K "column_of" zCg)
  (a16:Fa K "corners" zEk)
  (a17:Fa K "cleared" zEt)
  (a18:Fa K "first_filled" jS)
  (a19:Fa K "lessened" zDb)
  (a20:Fa K "taken_times" j5)
  (a21:Fa K "undone_rows" zAd)
  (a22:Fa K "solved" s_solved)
  (a23:Fa K "is_solution" zAh)
  (a24:Fa K "fractions" zCh)
  (a25:Fa K "least_bottom" jQ)
  (a26:Fa K "centred" zFu)
  (a27:Fa K "reach" s_reach)
  (a28:Fa K "next_prime" zAz)
  (a29:Fa K "is_shown" zCx)
  (a30:Fa K "summed" s_summed)
  (a31:Fa K "first_unbarred" wR)
  (a32:Fa K "divides" zFq)
  (a33:Fa K "sought" s_sought)
  (a34:Fa K "sought_within" jF)
  (a35:Fa K "sought_with" zAc)
  (a36:Fa K "whole_counts" jO)
  (a37:Fa K "leads_of" zCy)
  (a38:Fa K "entered" zFe)
  (a39:Fa K "mixed" s_mixed)
  (a40:Fa K "barring" zFp)
  (a41:Fa K "inner_bar" zCi)
  (a42:Fa K "_law_cell_at" j7)
  (a43:Fa K "_law_whole" zCd)
  (a44:Fa K "_law_numbers" j0)
  (a45:Fa K "_law_sum" zFg)
  (a46:Fa K "_law_way" zFd)
  (a47:Fa K "_law_numbers_by" wT)
  (a48:Fa K "_law_shape" zBw)
  (a49:Fa K "_law_counts_by" jB)
  (a50:Fa K "law" s_law)
  (z0:PySem.W.nsIn K mainGlobals "len"=some none:=by kernel_rfl)
  (z1:PySem.W.nsIn K mainGlobals "isinstance"=some none:=by kernel_rfl)
  (z2:PySem.W.nsIn K mainGlobals "int"=some none:=by kernel_rfl)
  (z3:PySem.W.nsIn K mainGlobals "bool"=some none:=by kernel_rfl)
  (z4:PySem.W.nsIn K mainGlobals "list"=some none:=by kernel_rfl)
  (z5:PySem.W.nsIn K mainGlobals "tuple"=some none:=by kernel_rfl)
  (z6:PySem.W.nsIn K mainGlobals "range"=some none:=by kernel_rfl)
  (z7:PySem.W.nsIn K mainGlobals "min"=some none:=by kernel_rfl)
  (z8:PySem.W.nsIn K mainGlobals "max"=some none:=by kernel_rfl)
  (z9:PySem.W.nsIn K mainGlobals "abs"=some none:=by kernel_rfl)
  (z10:PySem.W.nsIn K mainGlobals "zip"=some none:=by kernel_rfl)
  (z11:PySem.W.nsIn K mainGlobals "all"=some none:=by kernel_rfl)
  (z12:PySem.W.nsIn K mainGlobals "enumerate"=some none:=by kernel_rfl)
  (z13:PySem.W.nsIn K mainGlobals "sum"=some none:=by kernel_rfl)
  {t_LEAD_BITS:Tok}(ag_LEAD_BITS:PySem.W.nsIn K mainGlobals "LEAD_BITS"=some (some (.int 128 t_LEAD_BITS)):=by kernel_rfl)
  {t_FIRST_PRIME:Tok}(ag_FIRST_PRIME:PySem.W.nsIn K mainGlobals "FIRST_PRIME"=some (some (.int 1000000007 t_FIRST_PRIME)):=by kernel_rfl)
  {C_Frame:Addr}(ac_Frame:PySem.W.nsIn K mainGlobals "Frame"=some (some (.ref C_Frame)):=by kernel_rfl)
  (aM0:Fm K C_Frame "__init__" "Frame.__init__" zAx)
  (aM1:Fm K C_Frame "missed" "Frame.missed" jM)
  (aM2:Fm K C_Frame "counts" "Frame.counts" jP)
  (aM3:Fm K C_Frame "weights" "Frame.weights" jE)
  (pg_Frame:PySem.W.plainGet K C_Frame Str.empty=true:=by kernel_rfl)(hd_Frame:PySem.W.hasDictIn K C_Frame=true:=by kernel_rfl)(po_Frame:PySem.W.plainOver K C_Frame=true:=by kernel_rfl)(sa_Frame:PySem.W.findIn K (.ref C_Frame) "__setattr__"=some (some (.builtin "object.__setattr__")):=by kernel_rfl)(mk_Frame:PySem.W.makesIn K C_Frame=true:=by kernel_rfl)(kc_Frame:PySem.W.keepIn K (.ref C_Frame)=true:=by kernel_rfl)
  (na_size:PySem.W.findIn K (.ref C_Frame) "size"=some none:=by kernel_rfl)
  (na_prime:PySem.W.findIn K (.ref C_Frame) "prime"=some none:=by kernel_rfl)
  (na_found:PySem.W.findIn K (.ref C_Frame) "found"=some none:=by kernel_rfl)
  (na_chosen:PySem.W.findIn K (.ref C_Frame) "chosen"=some none:=by kernel_rfl)
  (na_columns:PySem.W.findIn K (.ref C_Frame) "columns"=some none:=by kernel_rfl)
  (na_rows:PySem.W.findIn K (.ref C_Frame) "rows"=some none:=by kernel_rfl)
  (na_modulus:PySem.W.findIn K (.ref C_Frame) "modulus"=some none:=by kernel_rfl)
  (na_undoing:PySem.W.findIn K (.ref C_Frame) "undoing"=some none:=by kernel_rfl)
  : ∃ fd:FuncData,(∀ (s:Shared)(v:Value),BindsTo s fd ⟨[v],[]⟩ [("script",v)])∧∀ base:Heap,K.In base→base.Ns mainGlobals mg→FnOk l.prog w K mg base CX0 13 fa fd ["script"] (spLaw K):=by
 have T:Txt K mg C_Frame t_LEAD_BITS t_FIRST_PRIME:=⟨PySem.W.mg_of X G ag_LEAD_BITS,PySem.W.mg_of X G ag_FIRST_PRIME,PySem.W.mg_of X G ac_Frame,a0.dn X G (ba2 rfl fun _ _ _ _ _ _ _ _=>rfl),a1.dn X G (ba2 rfl fun _ _ _ _ _ _ _ _=>rfl),a2.dn X G (ba3 rfl fun _ _ _ _ _ _ _ _ _=>rfl),a3.dn X G (ba2 rfl fun _ _ _ _ _ _ _ _=>rfl),a4.dn X G (ba2 rfl fun _ _ _ _ _ _ _ _=>rfl),a5.dn X G (ba2 rfl fun _ _ _ _ _ _ _ _=>rfl),a6.dn X G (ba3 rfl fun _ _ _ _ _ _ _ _ _=>rfl),a7.dn X G (ba2 rfl fun _ _ _ _ _ _ _ _=>rfl),a8.dn X G (ba1 rfl fun _ _ _ _ _ _ _=>rfl),a9.dn X G (ba2 rfl fun _ _ _ _ _ _ _ _=>rfl),a10.dn X G (ba2 rfl fun _ _ _ _ _ _ _ _=>rfl),a11.dn X G (ba2 rfl fun _ _ _ _ _ _ _ _=>rfl),a12.dn X G (ba2 rfl fun _ _ _ _ _ _ _ _=>rfl),a13.dn X G (ba3 rfl fun _ _ _ _ _ _ _ _ _=>rfl),a14.dn X G (ba1 rfl fun _ _ _ _ _ _ _=>rfl),a15.dn X G (ba2 rfl fun _ _ _ _ _ _ _ _=>rfl),a16.dn X G (ba2 rfl fun _ _ _ _ _ _ _ _=>rfl),a17.dn X G (ba3 rfl fun _ _ _ _ _ _ _ _ _=>rfl),a18.dn X G (ba1 rfl fun _ _ _ _ _ _ _=>rfl),a19.dn X G (ba4 rfl fun _ _ _ _ _ _ _ _ _ _=>rfl),a20.dn X G (ba3 rfl fun _ _ _ _ _ _ _ _ _=>rfl),a21.dn X G (ba2 rfl fun _ _ _ _ _ _ _ _=>rfl),a22.dn X G (ba4 rfl fun _ _ _ _ _ _ _ _ _ _=>rfl),a23.dn X G (ba3 rfl fun _ _ _ _ _ _ _ _ _=>rfl),a24.dn X G (ba2 rfl fun _ _ _ _ _ _ _ _=>rfl),a25.dn X G (ba3 rfl fun _ _ _ _ _ _ _ _ _=>rfl),a26.dn X G (ba2 rfl fun _ _ _ _ _ _ _ _=>rfl),a27.dn X G (ba2 rfl fun _ _ _ _ _ _ _ _=>rfl),a28.dn X G (ba1 rfl fun _ _ _ _ _ _ _=>rfl),a29.dn X G (ba3 rfl fun _ _ _ _ _ _ _ _ _=>rfl),a30.dn X G (ba3 rfl fun _ _ _ _ _ _ _ _ _=>rfl),a31.dn X G (ba2 rfl fun _ _ _ _ _ _ _ _=>rfl),a32.dn X G (ba2 rfl fun _ _ _ _ _ _ _ _=>rfl),a33.dn X G (ba3 rfl fun _ _ _ _ _ _ _ _ _=>rfl),a34.dn X G (ba3 rfl fun _ _ _ _ _ _ _ _ _=>rfl),a35.dn X G (ba4 rfl fun _ _ _ _ _ _ _ _ _ _=>rfl),a36.dn X G (ba2 rfl fun _ _ _ _ _ _ _ _=>rfl),a37.dn X G (ba3 rfl fun _ _ _ _ _ _ _ _ _=>rfl),a38.dn X G (ba3 rfl fun _ _ _ _ _ _ _ _ _=>rfl),a39.dn X G (ba5 rfl fun _ _ _ _ _ _ _ _ _ _ _=>rfl),a40.dn X G (ba3 rfl fun _ _ _ _ _ _ _ _ _=>rfl),a41.dn X G (ba2 rfl fun _ _ _ _ _ _ _ _=>rfl),a42.dn X G (ba2 rfl fun _ _ _ _ _ _ _ _=>rfl),a43.dn X G (ba1 rfl fun _ _ _ _ _ _ _=>rfl),a44.dn X G (ba2 rfl fun _ _ _ _ _ _ _ _=>rfl),a45.dn X G (ba2 rfl fun _ _ _ _ _ _ _ _=>rfl),a46.dn X G (ba3 rfl fun _ _ _ _ _ _ _ _ _=>rfl),a47.dn X G (ba3 rfl fun _ _ _ _ _ _ _ _ _=>rfl),a48.dn X G (ba1 rfl fun _ _ _ _ _ _ _=>rfl),a49.dn X G (ba2 rfl fun _ _ _ _ _ _ _ _=>rfl),⟨pg_Frame,hd_Frame,po_Frame,sa_Frame⟩,na_size,na_prime,na_found,na_chosen,na_columns,na_rows,na_modulus,na_undoing,aM0.kn mk_Frame kc_Frame (PySem.W.mg_of X G ac_Frame) (ba4 rfl fun _ _ _ _ _ _ _ _ _ _=>rfl),aM1.mn (ba2 rfl fun _ _ _ _ _ _ _ _=>rfl),aM2.mn (ba2 rfl fun _ _ _ _ _ _ _ _=>rfl),aM3.mn (ba2 rfl fun _ _ _ _ _ _ _ _=>rfl),PySem.W.mg_none_of X G z0,PySem.W.mg_none_of X G z1,PySem.W.mg_none_of X G z2,PySem.W.mg_none_of X G z3,PySem.W.mg_none_of X G z4,PySem.W.mg_none_of X G z5,PySem.W.mg_none_of X G z6,PySem.W.mg_none_of X G z7,PySem.W.mg_none_of X G z8,PySem.W.mg_none_of X G z9,PySem.W.mg_none_of X G z10,PySem.W.mg_none_of X G z11,PySem.W.mg_none_of X G z12,PySem.W.mg_none_of X G z13⟩
 obtain⟨fd,F⟩:=a50.law X G hfa
 exact⟨fd,F.to (ba1 rfl fun _ _ _ _ _ _ _=>rfl),fun base _ _=>ok_law T F⟩
theorem walk {l:PySem.W.OpenLaw}{q:Program}{loose:List Str}{XP:(Str→Option Value)→Heap→Prop}{YP:World→Heap→Prop}{d:DefRec}{K:Params→PySem.W.Frag}(hn:l.most=some 63)(hdf:d.params.defaults=[])
  (hY:∀ (w:World)(h:Heap),YP w h→(K w.params).In h)
  (F:∀ (w:World)(mg:Str→Option Value)(fa:Addr)(h:Heap),(K w.params).In h→h.Ns mainGlobals mg→mg d.name=some (.ref fa) →
   ∃ fd:FuncData,(∀ (s:Shared)(u:Value),BindsTo s fd ⟨[u],[]⟩ [("script",u)])∧∀ base:Heap,(K w.params).In base→base.Ns mainGlobals mg→FnOk l.prog w (K w.params) mg base CX0 13 fa fd ["script"] (spLaw (K w.params))) :
  PySem.W.WalkO q loose XP YP l.row.toRowW d [] (fun f vs=>PySem.call f vs) :=
 L2.walk_of (n:=63) (k:=13) (x:="script") (CX:=fun _=>CX0) (sp:=fun w=>spLaw (K w.params)) hn (by decide) hdf ⟨rfl,by decide,by decide⟩ hY F (fun _ _ a ns hl _ hS=>⟨a,ns,rfl,hS,hl,fun _=>rfl⟩) fun _ _ _ _ _ z=>z
end K36
namespace PwT
open PySem
abbrev S:=Str.ofString
noncomputable def p0:Str:=⟨⟨[95,108,97,119,95,119,97,121]⟩⟩
noncomputable def p1:Str:=⟨⟨[102,111,117,110,100]⟩⟩
noncomputable def p2:Str:=⟨⟨[115,116,101,112,115]⟩⟩
noncomputable def p3:Str:=⟨⟨[103,111,97,108]⟩⟩
noncomputable def p4:Str:=⟨⟨[105,115,105,110,115,116,97,110,99,101]⟩⟩
noncomputable def p5:Str:=⟨⟨[116,117,112,108,101]⟩⟩
noncomputable def p6:Str:=⟨⟨[108,101,110]⟩⟩
noncomputable def p7:Str:=⟨⟨[119,97,121]⟩⟩
noncomputable def p8:Str:=⟨⟨[95,108,97,119,95,110,117,109,98,101,114,115]⟩⟩
noncomputable def p9:Str:=⟨⟨[107]⟩⟩
noncomputable def p10:Str:=⟨⟨[114,97,110,103,101]⟩⟩
noncomputable def p11:Str:=⟨⟨[95,108,97,119,95,115,117,109]⟩⟩
noncomputable def p12:Str:=⟨⟨[115,116,101,112]⟩⟩
noncomputable def p13:Str:=⟨⟨[46,48]⟩⟩
noncomputable def p14:Str:=⟨⟨[102,97,115,116]⟩⟩
noncomputable def p15:Str:=⟨⟨[95,108,97,119,95,110,117,109,98,101,114,115,95,98,121]⟩⟩
noncomputable def p16:Str:=⟨⟨[99,101,108,108,115]⟩⟩
noncomputable def p17:Str:=⟨⟨[116,111,116,97,108]⟩⟩
noncomputable def p18:Str:=⟨⟨[109,111,115,116]⟩⟩
noncomputable def p19:Str:=⟨⟨[110,117,109,98,101,114,115]⟩⟩
noncomputable def p20:Str:=⟨⟨[97,116]⟩⟩
noncomputable def p21:Str:=⟨⟨[110,117,109,98,101,114]⟩⟩
noncomputable def p22:Str:=⟨⟨[95,108,97,119,95,115,104,97,112,101]⟩⟩
noncomputable def p23:Str:=⟨⟨[99,101,108,108]⟩⟩
noncomputable def p24:Str:=⟨⟨[95,108,97,119,95,99,111,117,110,116,115,95,98,121]⟩⟩
noncomputable def p25:Str:=⟨⟨[109,97,110,121]⟩⟩
noncomputable def p26:Str:=⟨⟨[99,111,117,110,116,115]⟩⟩
noncomputable def p27:Str:=⟨⟨[108,97,119]⟩⟩
noncomputable def p28:Str:=⟨⟨[115,99,114,105,112,116]⟩⟩
noncomputable def p29:Str:=⟨⟨[119,105,100,101]⟩⟩
noncomputable def p30:Str:=⟨⟨[95,108,97,119,95,99,101,108,108,95,97,116]⟩⟩
noncomputable def p31:Str:=⟨⟨[109,105,110]⟩⟩
noncomputable def p32:Str:=⟨⟨[109,97,120]⟩⟩
noncomputable def p33:Str:=⟨⟨[114,101,97,99,104]⟩⟩
noncomputable def p34:Str:=⟨⟨[108,105,115,116]⟩⟩
noncomputable def p35:Str:=⟨⟨[95,108,97,119,95,119,104,111,108,101]⟩⟩
noncomputable def p36:Str:=⟨⟨[105,110,116]⟩⟩
noncomputable def p37:Str:=⟨⟨[98,111,111,108]⟩⟩
noncomputable def p38:Str:=⟨⟨[97,108,108]⟩⟩
noncomputable def p39:Str:=⟨⟨[111,110,101]⟩⟩
noncomputable def p40:Str:=⟨⟨[114,111,119]⟩⟩
noncomputable def p41:Str:=⟨⟨[119,101,105,103,104,116,115]⟩⟩
noncomputable def p42:Str:=⟨⟨[122,105,112]⟩⟩
noncomputable def p43:Str:=⟨⟨[109,105,120,101,100]⟩⟩
noncomputable def p44:Str:=⟨⟨[111,116,104,101,114]⟩⟩
noncomputable def p45:Str:=⟨⟨[109,111,114,101]⟩⟩
noncomputable def p46:Str:=⟨⟨[109,111,100,117,108,117,115]⟩⟩
noncomputable def p47:Str:=⟨⟨[98,101,121,111,110,100]⟩⟩
noncomputable def p48:Str:=⟨⟨[98,97,114,114,105,110,103]⟩⟩
noncomputable def p49:Str:=⟨⟨[108,101,97,100,115]⟩⟩
noncomputable def p50:Str:=⟨⟨[99,111,108,117,109,110]⟩⟩
noncomputable def p51:Str:=⟨⟨[97,109,111,117,110,116,115]⟩⟩
noncomputable def p52:Str:=⟨⟨[104,117,110,103]⟩⟩
noncomputable def p53:Str:=⟨⟨[112,108,97,99,101]⟩⟩
noncomputable def p54:Str:=⟨⟨[108,101,97,100]⟩⟩
noncomputable def p55:Str:=⟨⟨[108,97,116,101,114]⟩⟩
noncomputable def p56:Str:=⟨⟨[119,101,105,103,104,101,100]⟩⟩
noncomputable def p57:Str:=⟨⟨[105,110,110,101,114,95,98,97,114]⟩⟩
noncomputable def p58:Str:=⟨⟨[102,114,97,109,101]⟩⟩
noncomputable def p59:Str:=⟨⟨[116,111,108,100]⟩⟩
noncomputable def p60:Str:=⟨⟨[98,97,114]⟩⟩
noncomputable def p61:Str:=⟨⟨[95,95,110,97,109,101,95,95]⟩⟩
noncomputable def p62:Str:=⟨⟨[108,97,119,95,101,118,101,110,104,117,98,95,107,51,54,95,109,97,100,101,95,111,102,95,115,116,101,112,115]⟩⟩
noncomputable def p63:Str:=⟨⟨[115,111,117,103,104,116,95,119,105,116,104]⟩⟩
noncomputable def p64:Str:=⟨⟨[111,116,104,101,114,115]⟩⟩
noncomputable def p65:Str:=⟨⟨[103,111,97,108,95,109,97,100,101]⟩⟩
noncomputable def p66:Str:=⟨⟨[109,97,100,101]⟩⟩
noncomputable def p67:Str:=⟨⟨[106,111,105,110,116]⟩⟩
noncomputable def p68:Str:=⟨⟨[114,111,119,115]⟩⟩
noncomputable def p69:Str:=⟨⟨[119,104,111,108,101,95,99,111,117,110,116,115]⟩⟩
noncomputable def p70:Str:=⟨⟨[108,101,97,100,115,95,111,102]⟩⟩
noncomputable def p71:Str:=⟨⟨[108,101,102,116]⟩⟩
noncomputable def p72:Str:=⟨⟨[101,110,117,109,101,114,97,116,101]⟩⟩
noncomputable def p73:Str:=⟨⟨[108,101,115,115,101,110,101,100]⟩⟩
noncomputable def p74:Str:=⟨⟨[116,97,107,101,110]⟩⟩
noncomputable def p75:Str:=⟨⟨[99,101,110,116,114,101,100]⟩⟩
noncomputable def p76:Str:=⟨⟨[115,112,97,114,101,100]⟩⟩
noncomputable def p77:Str:=⟨⟨[115,117,109,109,101,100]⟩⟩
noncomputable def p78:Str:=⟨⟨[115,112,114,101,97,100]⟩⟩
noncomputable def p79:Str:=⟨⟨[99,104,111,115,101,110]⟩⟩
noncomputable def p80:Str:=⟨⟨[116,111,112]⟩⟩
noncomputable def p81:Str:=⟨⟨[115,105,122,101]⟩⟩
noncomputable def p82:Str:=⟨⟨[101,110,116,101,114,101,100]⟩⟩
noncomputable def p83:Str:=⟨⟨[111,117,116,99,111,109,101]⟩⟩
noncomputable def p84:Str:=⟨⟨[97,112,112,101,110,100]⟩⟩
noncomputable def p85:Str:=⟨⟨[101,117,99,108,105,100]⟩⟩
noncomputable def p86:Str:=⟨⟨[102,105,114,115,116,95,117,110,98,97,114,114,101,100]⟩⟩
noncomputable def p87:Str:=⟨⟨[100,105,118,105,100,101,115]⟩⟩
noncomputable def p88:Str:=⟨⟨[115,111,117,103,104,116]⟩⟩
noncomputable def p89:Str:=⟨⟨[112,114,105,109,101]⟩⟩
noncomputable def p90:Str:=⟨⟨[70,114,97,109,101]⟩⟩
noncomputable def p91:Str:=⟨⟨[109,105,115,115,101,100]⟩⟩
noncomputable def p92:Str:=⟨⟨[115,111,117,103,104,116,95,119,105,116,104,105,110]⟩⟩
noncomputable def p93:Str:=⟨⟨[99,111,108,117,109,110,95,111,102]⟩⟩
noncomputable def p94:Str:=⟨⟨[112,105,99,107,101,100]⟩⟩
noncomputable def p95:Str:=⟨⟨[70,73,82,83,84,95,80,82,73,77,69]⟩⟩
noncomputable def p96:Str:=⟨⟨[105,115,95,115,104,111,119,110]⟩⟩
noncomputable def p97:Str:=⟨⟨[110,101,120,116,95,112,114,105,109,101]⟩⟩
noncomputable def p98:Str:=⟨⟨[112,97,114,116,115]⟩⟩
noncomputable def p99:Str:=⟨⟨[108,101,97,115,116,95,98,111,116,116,111,109]⟩⟩
noncomputable def p100:Str:=⟨⟨[115,99,97,108,101]⟩⟩
noncomputable def p101:Str:=⟨⟨[98,105,116,115]⟩⟩
noncomputable def p102:Str:=⟨⟨[97,98,115]⟩⟩
noncomputable def p103:Str:=⟨⟨[114,101,115,116]⟩⟩
noncomputable def zBm:Str:=⟨⟨[101,118,101,110,104,117,98,46,115,116,101,112,115]⟩⟩
noncomputable def p105:Str:=⟨⟨[117,110,100,111,110,101,95,114,111,119,115]⟩⟩
noncomputable def p106:Str:=⟨⟨[116,97,107,101,110,95,116,105,109,101,115]⟩⟩
noncomputable def p107:Str:=⟨⟨[98,97,99,107]⟩⟩
noncomputable def p108:Str:=⟨⟨[115,111,108,118,101,100]⟩⟩
noncomputable def p109:Str:=⟨⟨[117,110,100,111,105,110,103]⟩⟩
noncomputable def p110:Str:=⟨⟨[114,101,115,116,115]⟩⟩
noncomputable def p111:Str:=⟨⟨[105,115,95,115,111,108,117,116,105,111,110]⟩⟩
noncomputable def p112:Str:=⟨⟨[99,111,117,110,116]⟩⟩
noncomputable def p113:Str:=⟨⟨[102,114,97,99,116,105,111,110,115]⟩⟩
noncomputable def p114:Str:=⟨⟨[98,105,116,95,108,101,110,103,116,104]⟩⟩
noncomputable def p115:Str:=⟨⟨[98,111,116,116,111,109]⟩⟩
noncomputable def p116:Str:=⟨⟨[99,108,101,97,114,101,100]⟩⟩
noncomputable def p117:Str:=⟨⟨[119,101,105,103,104,116]⟩⟩
noncomputable def p118:Str:=⟨⟨[102,105,114,115,116,95,102,105,108,108,101,100]⟩⟩
noncomputable def p119:Str:=⟨⟨[108,101,115,115]⟩⟩
noncomputable def p120:Str:=⟨⟨[112,108,97,99,101,115]⟩⟩
noncomputable def p121:Str:=⟨⟨[102,108,105,112,112,101,100]⟩⟩
noncomputable def p122:Str:=⟨⟨[99,111,114,110,101,114,115]⟩⟩
noncomputable def p123:Str:=⟨⟨[108,111,97,100]⟩⟩
noncomputable def p124:Str:=⟨⟨[99,104,101,99,107,95,102,105,116]⟩⟩
noncomputable def p125:Str:=⟨⟨[115,117,109]⟩⟩
noncomputable def jZ:Str:=⟨⟨[101,118,101,110,104,117,98,46,102,114,97,109,101,115]⟩⟩
noncomputable def p127:Str:=⟨⟨[95,95,105,110,105,116,95,95]⟩⟩
noncomputable def p128:Str:=⟨⟨[115,101,108,102]⟩⟩
noncomputable def p129:Str:=⟨⟨[99,111,108,117,109,110,115]⟩⟩
noncomputable def p130:Str:=⟨⟨[116,104,105,110,103,115]⟩⟩
noncomputable def p131:Str:=⟨⟨[110]⟩⟩
noncomputable def p132:Str:=⟨⟨[112]⟩⟩
noncomputable def p133:Str:=⟨⟨[113]⟩⟩
noncomputable def p134:Str:=⟨⟨[112,114,105,109,101,95,112,111,119,101,114]⟩⟩
noncomputable def p135:Str:=⟨⟨[78,111,84,117,114,110]⟩⟩
noncomputable def p136:Str:=⟨⟨[116,104,101,32,100,105,118,105,115,111,114,32,111,102,32,116,104,101,32,115,116,101,112,32,97,110,100,32,116,104,101,32,110,117,109,98,101,114,32,105,115,110,39,116,32,49]⟩⟩
noncomputable def p137:Str:=⟨⟨[101,118,101,110,104,117,98,46,112,97,112,101,114,115]⟩⟩
noncomputable def p138:Str:=⟨⟨[101,118,101,110,104,117,98,46,108,111,97,100,115]⟩⟩
noncomputable def p139:Str:=⟨⟨[104,111,108,101]⟩⟩
noncomputable def p140:Str:=⟨⟨[78,111,70,105,116]⟩⟩
noncomputable def p141:Str:=⟨⟨[116,104,101,32,108,111,97,100,115,32,104,97,118,101,32,117,110,108,105,107,101,32,110,117,109,98,101,114,115,32,111,102,32,104,111,108,101,115]⟩⟩
noncomputable def p142:Str:=⟨⟨[101,118,101,110,104,117,98,46,112,114,105,109,101,115]⟩⟩
noncomputable def p143:Str:=⟨⟨[116,117,114,110]⟩⟩
noncomputable def p144:Str:=⟨⟨[110,101,120,116,95,116,117,114,110]⟩⟩
noncomputable def p145:Str:=⟨⟨[116,117,114,110,101,100,95,111,110]⟩⟩
noncomputable def p146:Str:=⟨⟨[112,97,105,114]⟩⟩
noncomputable def p147:Str:=⟨⟨[108,101,110,103,116,104]⟩⟩
noncomputable def p148:Str:=⟨⟨[76,69,65,68,95,66,73,84,83]⟩⟩
noncomputable def p149:Str:=⟨⟨[98,101,104,105,110,100]⟩⟩
noncomputable def p150:Str:=⟨⟨[115,117,114,101,95,116,117,114,110]⟩⟩
noncomputable def p151:Str:=⟨⟨[108,97,116,101,114,95,114,101,115,116]⟩⟩
noncomputable def p152:Str:=⟨⟨[110,101,119,95,114,101,115,116]⟩⟩
noncomputable def p153:Str:=⟨⟨[102,117,114,116,104,101,114]⟩⟩
noncomputable def p154:Str:=⟨⟨[100,111,117,98,116]⟩⟩
noncomputable def p155:Str:=⟨⟨[101,118,101,110,104,117,98,46,119,104,111,108,101,115]⟩⟩
noncomputable def p156:Str:=⟨⟨[100,105,118,105,115,111,114]⟩⟩
noncomputable def p157:Str:=⟨⟨[103,114,101,97,116]⟩⟩
noncomputable def p158:Str:=⟨⟨[115,109,97,108,108]⟩⟩
noncomputable def p159:Str:=⟨⟨[101,118,101,110,104,117,98,46,101,114,114,111,114,115]⟩⟩
noncomputable def p160:Str:=⟨⟨[72,117,98,69,114,114,111,114]⟩⟩
noncomputable def p161:Str:=⟨⟨[86,97,108,117,101,69,114,114,111,114]⟩⟩
noncomputable def p162:Str:=⟨⟨[47,99,108,97,105,109,47,99,117,116,46,112,121]⟩⟩
noncomputable def nth (l:List Str):Nat→Str:=@List.rec Str (fun _=>Nat→Str) (fun _=>⟨#[]⟩) (fun a _ ih n=>@Nat.rec (fun _=>Str) a (fun m _=>ih m) n) l
noncomputable def A:List Str:=[S "_law_way",S "found",S "steps",S "goal",S "isinstance",S "tuple",S "len",S "way",S "_law_numbers",S "k",S "range",S "_law_sum",S "step",S ".0",S "fast",S "_law_numbers_by",S "cells",S "total",S "most",S "numbers",S "at",S "number",S "_law_shape",S "cell",S "_law_counts_by",S "many",S "counts",S "law",S "script",S "wide",S "_law_cell_at",S "min",S "max",S "reach",S "list",S "_law_whole",S "int",S "bool",S "all",S "one",S "row",S "weights",S "zip",S "mixed",S "other",S "more",S "modulus",S "beyond",S "barring",S "leads",S "column",S "amounts",S "hung",S "place",S "lead",S "later",S "weighed",S "inner_bar",S "frame",S "told",S "bar",S "__name__",S "law_evenhub_k36_made_of_steps",S "sought_with",S "others",S "goal_made",S "made",S "joint",S "rows",S "whole_counts",S "leads_of",S "left",S "enumerate",S "lessened",S "taken",S "centred",S "spared",S "summed",S "spread",S "chosen",S "top",S "size",S "entered",S "outcome",S "append",S "euclid",S "first_unbarred",S "divides",S "sought",S "prime",S "Frame",S "missed",S "sought_within",S "column_of",S "picked",S "FIRST_PRIME",S "is_shown",S "next_prime",S "parts",S "least_bottom",S "scale",S "bits",S "abs",S "rest",S "evenhub.steps",S "undone_rows",S "taken_times",S "back",S "solved",S "undoing",S "rests",S "is_solution",S "count",S "fractions",S "bit_length",S "bottom",S "cleared",S "weight",S "first_filled",S "less",S "places",S "flipped",S "corners",S "load",S "check_fit",S "sum",S "evenhub.frames",S "__init__",S "self",S "columns",S "things",S "n",S "p",S "q",S "prime_power",S "NoTurn",S "the divisor of the step and the number isn't 1",S "evenhub.papers",S "evenhub.loads",S "hole",S "NoFit",S "the loads have unlike numbers of holes",S "evenhub.primes",S "turn",S "next_turn",S "turned_on",S "pair",S "length",S "LEAD_BITS",S "behind",S "sure_turn",S "later_rest",S "new_rest",S "further",S "doubt",S "evenhub.wholes",S "divisor",S "great",S "small",S "evenhub.errors",S "HubError",S "ValueError",S "/claim/cut.py"]
noncomputable def B:List Str:=[p0,p1,p2,p3,p4,p5,p6,p7,p8,p9,p10,p11,p12,p13,p14,p15,p16,p17,p18,p19,p20,p21,p22,p23,p24,p25,p26,p27,p28,p29,p30,p31,p32,p33,p34,p35,p36,p37,p38,p39,p40,p41,p42,p43,p44,p45,p46,p47,p48,p49,p50,p51,p52,p53,p54,p55,p56,p57,p58,p59,p60,p61,p62,p63,p64,p65,p66,p67,p68,p69,p70,p71,p72,p73,p74,p75,p76,p77,p78,p79,p80,p81,p82,p83,p84,p85,p86,p87,p88,p89,p90,p91,p92,p93,p94,p95,p96,p97,p98,p99,p100,p101,p102,p103,zBm,p105,p106,p107,p108,p109,p110,p111,p112,p113,p114,p115,p116,p117,p118,p119,p120,p121,p122,p123,p124,p125,jZ,p127,p128,p129,p130,p131,p132,p133,p134,p135,p136,p137,p138,p139,p140,p141,p142,p143,p144,p145,p146,p147,p148,p149,p150,p151,p152,p153,p154,p155,p156,p157,p158,p159,p160,p161,p162]
theorem a0:Str.ofString "_law_way"=nth A 0:=rfl
theorem b0:nth B 0=p0:=rfl
theorem a1:Str.ofString "found"=nth A 1:=rfl
theorem b1:nth B 1=p1:=rfl
theorem a2:Str.ofString "steps"=nth A 2:=rfl
theorem b2:nth B 2=p2:=rfl
theorem a3:Str.ofString "goal"=nth A 3:=rfl
theorem b3:nth B 3=p3:=rfl
theorem a4:Str.ofString "isinstance"=nth A 4:=rfl
theorem b4:nth B 4=p4:=rfl
theorem a5:Str.ofString "tuple"=nth A 5:=rfl
theorem b5:nth B 5=p5:=rfl
theorem a6:Str.ofString "len"=nth A 6:=rfl
theorem b6:nth B 6=p6:=rfl
theorem a7:Str.ofString "way"=nth A 7:=rfl
theorem b7:nth B 7=p7:=rfl
theorem a8:Str.ofString "_law_numbers"=nth A 8:=rfl
theorem b8:nth B 8=p8:=rfl
theorem a9:Str.ofString "k"=nth A 9:=rfl
theorem b9:nth B 9=p9:=rfl
theorem a10:Str.ofString "range"=nth A 10:=rfl
theorem b10:nth B 10=p10:=rfl
theorem a11:Str.ofString "_law_sum"=nth A 11:=rfl
theorem b11:nth B 11=p11:=rfl
theorem a12:Str.ofString "step"=nth A 12:=rfl
theorem b12:nth B 12=p12:=rfl
theorem a13:Str.ofString ".0"=nth A 13:=rfl
theorem b13:nth B 13=p13:=rfl
theorem a14:Str.ofString "fast"=nth A 14:=rfl
theorem b14:nth B 14=p14:=rfl
theorem a15:Str.ofString "_law_numbers_by"=nth A 15:=rfl
theorem b15:nth B 15=p15:=rfl
theorem a16:Str.ofString "cells"=nth A 16:=rfl
theorem b16:nth B 16=p16:=rfl
theorem a17:Str.ofString "total"=nth A 17:=rfl
theorem b17:nth B 17=p17:=rfl
theorem a18:Str.ofString "most"=nth A 18:=rfl
theorem b18:nth B 18=p18:=rfl
theorem a19:Str.ofString "numbers"=nth A 19:=rfl
theorem b19:nth B 19=p19:=rfl
theorem a20:Str.ofString "at"=nth A 20:=rfl
theorem b20:nth B 20=p20:=rfl
theorem a21:Str.ofString "number"=nth A 21:=rfl
theorem b21:nth B 21=p21:=rfl
theorem a22:Str.ofString "_law_shape"=nth A 22:=rfl
theorem b22:nth B 22=p22:=rfl
theorem a23:Str.ofString "cell"=nth A 23:=rfl
theorem b23:nth B 23=p23:=rfl
theorem a24:Str.ofString "_law_counts_by"=nth A 24:=rfl
theorem b24:nth B 24=p24:=rfl
theorem a25:Str.ofString "many"=nth A 25:=rfl
theorem b25:nth B 25=p25:=rfl
theorem a26:Str.ofString "counts"=nth A 26:=rfl
theorem b26:nth B 26=p26:=rfl
theorem a27:Str.ofString "law"=nth A 27:=rfl
theorem b27:nth B 27=p27:=rfl
theorem a28:Str.ofString "script"=nth A 28:=rfl
theorem b28:nth B 28=p28:=rfl
theorem a29:Str.ofString "wide"=nth A 29:=rfl
theorem b29:nth B 29=p29:=rfl
theorem a30:Str.ofString "_law_cell_at"=nth A 30:=rfl
theorem b30:nth B 30=p30:=rfl
theorem a31:Str.ofString "min"=nth A 31:=rfl
theorem b31:nth B 31=p31:=rfl
theorem a32:Str.ofString "max"=nth A 32:=rfl
theorem b32:nth B 32=p32:=rfl
theorem a33:Str.ofString "reach"=nth A 33:=rfl
theorem b33:nth B 33=p33:=rfl
theorem a34:Str.ofString "list"=nth A 34:=rfl
theorem b34:nth B 34=p34:=rfl
theorem a35:Str.ofString "_law_whole"=nth A 35:=rfl
theorem b35:nth B 35=p35:=rfl
theorem a36:Str.ofString "int"=nth A 36:=rfl
theorem b36:nth B 36=p36:=rfl
theorem a37:Str.ofString "bool"=nth A 37:=rfl
theorem b37:nth B 37=p37:=rfl
theorem a38:Str.ofString "all"=nth A 38:=rfl
theorem b38:nth B 38=p38:=rfl
theorem a39:Str.ofString "one"=nth A 39:=rfl
theorem b39:nth B 39=p39:=rfl
theorem a40:Str.ofString "row"=nth A 40:=rfl
theorem b40:nth B 40=p40:=rfl
theorem a41:Str.ofString "weights"=nth A 41:=rfl
theorem b41:nth B 41=p41:=rfl
theorem a42:Str.ofString "zip"=nth A 42:=rfl
theorem b42:nth B 42=p42:=rfl
theorem a43:Str.ofString "mixed"=nth A 43:=rfl
theorem b43:nth B 43=p43:=rfl
theorem a44:Str.ofString "other"=nth A 44:=rfl
theorem b44:nth B 44=p44:=rfl
theorem a45:Str.ofString "more"=nth A 45:=rfl
theorem b45:nth B 45=p45:=rfl
theorem a46:Str.ofString "modulus"=nth A 46:=rfl
theorem b46:nth B 46=p46:=rfl
theorem a47:Str.ofString "beyond"=nth A 47:=rfl
theorem b47:nth B 47=p47:=rfl
theorem a48:Str.ofString "barring"=nth A 48:=rfl
theorem b48:nth B 48=p48:=rfl
theorem a49:Str.ofString "leads"=nth A 49:=rfl
theorem b49:nth B 49=p49:=rfl
theorem a50:Str.ofString "column"=nth A 50:=rfl
theorem b50:nth B 50=p50:=rfl
theorem a51:Str.ofString "amounts"=nth A 51:=rfl
theorem b51:nth B 51=p51:=rfl
theorem a52:Str.ofString "hung"=nth A 52:=rfl
theorem b52:nth B 52=p52:=rfl
theorem a53:Str.ofString "place"=nth A 53:=rfl
theorem b53:nth B 53=p53:=rfl
theorem a54:Str.ofString "lead"=nth A 54:=rfl
theorem b54:nth B 54=p54:=rfl
theorem a55:Str.ofString "later"=nth A 55:=rfl
theorem b55:nth B 55=p55:=rfl
theorem a56:Str.ofString "weighed"=nth A 56:=rfl
theorem b56:nth B 56=p56:=rfl
theorem a57:Str.ofString "inner_bar"=nth A 57:=rfl
theorem b57:nth B 57=p57:=rfl
theorem a58:Str.ofString "frame"=nth A 58:=rfl
theorem b58:nth B 58=p58:=rfl
theorem a59:Str.ofString "told"=nth A 59:=rfl
theorem b59:nth B 59=p59:=rfl
theorem a60:Str.ofString "bar"=nth A 60:=rfl
theorem b60:nth B 60=p60:=rfl
theorem a61:Str.ofString "__name__"=nth A 61:=rfl
theorem b61:nth B 61=p61:=rfl
theorem a62:Str.ofString "law_evenhub_k36_made_of_steps"=nth A 62:=rfl
theorem b62:nth B 62=p62:=rfl
theorem a63:Str.ofString "sought_with"=nth A 63:=rfl
theorem b63:nth B 63=p63:=rfl
theorem a64:Str.ofString "others"=nth A 64:=rfl
theorem b64:nth B 64=p64:=rfl
theorem a65:Str.ofString "goal_made"=nth A 65:=rfl
theorem b65:nth B 65=p65:=rfl
theorem a66:Str.ofString "made"=nth A 66:=rfl
theorem b66:nth B 66=p66:=rfl
theorem a67:Str.ofString "joint"=nth A 67:=rfl
theorem b67:nth B 67=p67:=rfl
theorem a68:Str.ofString "rows"=nth A 68:=rfl
theorem b68:nth B 68=p68:=rfl
theorem a69:Str.ofString "whole_counts"=nth A 69:=rfl
theorem b69:nth B 69=p69:=rfl
theorem a70:Str.ofString "leads_of"=nth A 70:=rfl
theorem b70:nth B 70=p70:=rfl
theorem a71:Str.ofString "left"=nth A 71:=rfl
theorem b71:nth B 71=p71:=rfl
theorem a72:Str.ofString "enumerate"=nth A 72:=rfl
theorem b72:nth B 72=p72:=rfl
theorem a73:Str.ofString "lessened"=nth A 73:=rfl
theorem b73:nth B 73=p73:=rfl
theorem a74:Str.ofString "taken"=nth A 74:=rfl
theorem b74:nth B 74=p74:=rfl
theorem a75:Str.ofString "centred"=nth A 75:=rfl
theorem b75:nth B 75=p75:=rfl
theorem a76:Str.ofString "spared"=nth A 76:=rfl
theorem b76:nth B 76=p76:=rfl
theorem a77:Str.ofString "summed"=nth A 77:=rfl
theorem b77:nth B 77=p77:=rfl
theorem a78:Str.ofString "spread"=nth A 78:=rfl
theorem b78:nth B 78=p78:=rfl
theorem a79:Str.ofString "chosen"=nth A 79:=rfl
theorem b79:nth B 79=p79:=rfl
theorem a80:Str.ofString "top"=nth A 80:=rfl
theorem b80:nth B 80=p80:=rfl
theorem a81:Str.ofString "size"=nth A 81:=rfl
theorem b81:nth B 81=p81:=rfl
theorem a82:Str.ofString "entered"=nth A 82:=rfl
theorem b82:nth B 82=p82:=rfl
theorem a83:Str.ofString "outcome"=nth A 83:=rfl
theorem b83:nth B 83=p83:=rfl
theorem a84:Str.ofString "append"=nth A 84:=rfl
theorem b84:nth B 84=p84:=rfl
theorem a85:Str.ofString "euclid"=nth A 85:=rfl
theorem b85:nth B 85=p85:=rfl
theorem a86:Str.ofString "first_unbarred"=nth A 86:=rfl
theorem b86:nth B 86=p86:=rfl
theorem a87:Str.ofString "divides"=nth A 87:=rfl
theorem b87:nth B 87=p87:=rfl
theorem a88:Str.ofString "sought"=nth A 88:=rfl
theorem b88:nth B 88=p88:=rfl
theorem a89:Str.ofString "prime"=nth A 89:=rfl
theorem b89:nth B 89=p89:=rfl
theorem a90:Str.ofString "Frame"=nth A 90:=rfl
theorem b90:nth B 90=p90:=rfl
theorem a91:Str.ofString "missed"=nth A 91:=rfl
theorem b91:nth B 91=p91:=rfl
theorem a92:Str.ofString "sought_within"=nth A 92:=rfl
theorem b92:nth B 92=p92:=rfl
theorem a93:Str.ofString "column_of"=nth A 93:=rfl
theorem b93:nth B 93=p93:=rfl
theorem a94:Str.ofString "picked"=nth A 94:=rfl
theorem b94:nth B 94=p94:=rfl
theorem a95:Str.ofString "FIRST_PRIME"=nth A 95:=rfl
theorem b95:nth B 95=p95:=rfl
theorem a96:Str.ofString "is_shown"=nth A 96:=rfl
theorem b96:nth B 96=p96:=rfl
theorem a97:Str.ofString "next_prime"=nth A 97:=rfl
theorem b97:nth B 97=p97:=rfl
theorem a98:Str.ofString "parts"=nth A 98:=rfl
theorem b98:nth B 98=p98:=rfl
theorem a99:Str.ofString "least_bottom"=nth A 99:=rfl
theorem b99:nth B 99=p99:=rfl
theorem a100:Str.ofString "scale"=nth A 100:=rfl
theorem b100:nth B 100=p100:=rfl
theorem a101:Str.ofString "bits"=nth A 101:=rfl
theorem b101:nth B 101=p101:=rfl
theorem a102:Str.ofString "abs"=nth A 102:=rfl
theorem b102:nth B 102=p102:=rfl
theorem a103:Str.ofString "rest"=nth A 103:=rfl
theorem b103:nth B 103=p103:=rfl
theorem a104:Str.ofString "evenhub.steps"=nth A 104:=rfl
theorem b104:nth B 104=zBm:=rfl
theorem a105:Str.ofString "undone_rows"=nth A 105:=rfl
theorem b105:nth B 105=p105:=rfl
theorem a106:Str.ofString "taken_times"=nth A 106:=rfl
theorem b106:nth B 106=p106:=rfl
theorem a107:Str.ofString "back"=nth A 107:=rfl
theorem b107:nth B 107=p107:=rfl
theorem a108:Str.ofString "solved"=nth A 108:=rfl
theorem b108:nth B 108=p108:=rfl
theorem a109:Str.ofString "undoing"=nth A 109:=rfl
theorem b109:nth B 109=p109:=rfl
theorem a110:Str.ofString "rests"=nth A 110:=rfl
theorem b110:nth B 110=p110:=rfl
theorem a111:Str.ofString "is_solution"=nth A 111:=rfl
theorem b111:nth B 111=p111:=rfl
theorem a112:Str.ofString "count"=nth A 112:=rfl
theorem b112:nth B 112=p112:=rfl
theorem a113:Str.ofString "fractions"=nth A 113:=rfl
theorem b113:nth B 113=p113:=rfl
theorem a114:Str.ofString "bit_length"=nth A 114:=rfl
theorem b114:nth B 114=p114:=rfl
theorem a115:Str.ofString "bottom"=nth A 115:=rfl
theorem b115:nth B 115=p115:=rfl
theorem a116:Str.ofString "cleared"=nth A 116:=rfl
theorem b116:nth B 116=p116:=rfl
theorem a117:Str.ofString "weight"=nth A 117:=rfl
theorem b117:nth B 117=p117:=rfl
theorem a118:Str.ofString "first_filled"=nth A 118:=rfl
theorem b118:nth B 118=p118:=rfl
theorem a119:Str.ofString "less"=nth A 119:=rfl
theorem b119:nth B 119=p119:=rfl
theorem a120:Str.ofString "places"=nth A 120:=rfl
theorem b120:nth B 120=p120:=rfl
theorem a121:Str.ofString "flipped"=nth A 121:=rfl
theorem b121:nth B 121=p121:=rfl
theorem a122:Str.ofString "corners"=nth A 122:=rfl
theorem b122:nth B 122=p122:=rfl
theorem a123:Str.ofString "load"=nth A 123:=rfl
theorem b123:nth B 123=p123:=rfl
theorem a124:Str.ofString "check_fit"=nth A 124:=rfl
theorem b124:nth B 124=p124:=rfl
theorem a125:Str.ofString "sum"=nth A 125:=rfl
theorem b125:nth B 125=p125:=rfl
theorem a126:Str.ofString "evenhub.frames"=nth A 126:=rfl
theorem b126:nth B 126=jZ:=rfl
theorem a127:Str.ofString "__init__"=nth A 127:=rfl
theorem b127:nth B 127=p127:=rfl
theorem a128:Str.ofString "self"=nth A 128:=rfl
theorem b128:nth B 128=p128:=rfl
theorem a129:Str.ofString "columns"=nth A 129:=rfl
theorem b129:nth B 129=p129:=rfl
theorem a130:Str.ofString "things"=nth A 130:=rfl
theorem b130:nth B 130=p130:=rfl
theorem a131:Str.ofString "n"=nth A 131:=rfl
theorem b131:nth B 131=p131:=rfl
theorem a132:Str.ofString "p"=nth A 132:=rfl
theorem b132:nth B 132=p132:=rfl
theorem a133:Str.ofString "q"=nth A 133:=rfl
theorem b133:nth B 133=p133:=rfl
theorem a134:Str.ofString "prime_power"=nth A 134:=rfl
theorem b134:nth B 134=p134:=rfl
theorem a135:Str.ofString "NoTurn"=nth A 135:=rfl
theorem b135:nth B 135=p135:=rfl
theorem a136:Str.ofString "the divisor of the step and the number isn't 1"=nth A 136:=rfl
theorem b136:nth B 136=p136:=rfl
theorem a137:Str.ofString "evenhub.papers"=nth A 137:=rfl
theorem b137:nth B 137=p137:=rfl
theorem a138:Str.ofString "evenhub.loads"=nth A 138:=rfl
theorem b138:nth B 138=p138:=rfl
theorem a139:Str.ofString "hole"=nth A 139:=rfl
theorem b139:nth B 139=p139:=rfl
theorem a140:Str.ofString "NoFit"=nth A 140:=rfl
theorem b140:nth B 140=p140:=rfl
theorem a141:Str.ofString "the loads have unlike numbers of holes"=nth A 141:=rfl
theorem b141:nth B 141=p141:=rfl
theorem a142:Str.ofString "evenhub.primes"=nth A 142:=rfl
theorem b142:nth B 142=p142:=rfl
theorem a143:Str.ofString "turn"=nth A 143:=rfl
theorem b143:nth B 143=p143:=rfl
theorem a144:Str.ofString "next_turn"=nth A 144:=rfl
theorem b144:nth B 144=p144:=rfl
theorem a145:Str.ofString "turned_on"=nth A 145:=rfl
theorem b145:nth B 145=p145:=rfl
theorem a146:Str.ofString "pair"=nth A 146:=rfl
theorem b146:nth B 146=p146:=rfl
theorem a147:Str.ofString "length"=nth A 147:=rfl
theorem b147:nth B 147=p147:=rfl
theorem a148:Str.ofString "LEAD_BITS"=nth A 148:=rfl
theorem b148:nth B 148=p148:=rfl
theorem a149:Str.ofString "behind"=nth A 149:=rfl
theorem b149:nth B 149=p149:=rfl
theorem a150:Str.ofString "sure_turn"=nth A 150:=rfl
theorem b150:nth B 150=p150:=rfl
theorem a151:Str.ofString "later_rest"=nth A 151:=rfl
theorem b151:nth B 151=p151:=rfl
theorem a152:Str.ofString "new_rest"=nth A 152:=rfl
theorem b152:nth B 152=p152:=rfl
theorem a153:Str.ofString "further"=nth A 153:=rfl
theorem b153:nth B 153=p153:=rfl
theorem a154:Str.ofString "doubt"=nth A 154:=rfl
theorem b154:nth B 154=p154:=rfl
theorem a155:Str.ofString "evenhub.wholes"=nth A 155:=rfl
theorem b155:nth B 155=p155:=rfl
theorem a156:Str.ofString "divisor"=nth A 156:=rfl
theorem b156:nth B 156=p156:=rfl
theorem a157:Str.ofString "great"=nth A 157:=rfl
theorem b157:nth B 157=p157:=rfl
theorem a158:Str.ofString "small"=nth A 158:=rfl
theorem b158:nth B 158=p158:=rfl
theorem a159:Str.ofString "evenhub.errors"=nth A 159:=rfl
theorem b159:nth B 159=p159:=rfl
theorem a160:Str.ofString "HubError"=nth A 160:=rfl
theorem b160:nth B 160=p160:=rfl
theorem a161:Str.ofString "ValueError"=nth A 161:=rfl
theorem b161:nth B 161=p161:=rfl
theorem a162:Str.ofString "/claim/cut.py"=nth A 162:=rfl
theorem b162:nth B 162=p162:=rfl
theorem cc {a b:Str}{l m:List Str}(h:a=b)(k:l=m):a::l=b::m:=by rw[h,k]
set_option maxRecDepth 100000 in
theorem AB:A=B:=by
 delta A B
 repeat (refine cc (PySem.W.Fast.ofString_ofList _) ?_)
 rfl
set_option maxRecDepth 100000 in
noncomputable def G:{g:List Str→Program // PySem.Challenge.pw_evenhub_k36_made_of_steps=g A}:=by
 refine⟨?g,?h⟩
 case h =>
  delta PySem.Challenge.pw_evenhub_k36_made_of_steps
  dsimp only [a0,a1,a2,a3,a4,a5,a6,a7,a8,a9,a10,a11,a12,a13,a14,a15,a16,a17,a18,a19,a20,a21,a22,a23,a24,a25,a26,a27,a28,a29,a30,a31,a32,a33,a34,a35,a36,a37,a38,a39,a40,a41,a42,a43,a44,a45,a46,a47,a48,a49,a50,a51,a52,a53,a54,a55,a56,a57,a58,a59,a60,a61,a62,a63,a64,a65,a66,a67,a68,a69,a70,a71,a72,a73,a74,a75,a76,a77,a78,a79,a80,a81,a82,a83,a84,a85,a86,a87,a88,a89,a90,a91,a92,a93,a94,a95,a96,a97,a98,a99,a100,a101,a102,a103,a104,a105,a106,a107,a108,a109,a110,a111,a112,a113,a114,a115,a116,a117,a118,a119,a120,a121,a122,a123,a124,a125,a126,a127,a128,a129,a130,a131,a132,a133,a134,a135,a136,a137,a138,a139,a140,a141,a142,a143,a144,a145,a146,a147,a148,a149,a150,a151,a152,a153,a154,a155,a156,a157,a158,a159,a160,a161,a162]
  generalize A=f
  exact rfl
set_option maxRecDepth 100000 in
noncomputable def Y:{y:Program // G.1 B=y}:=by
 refine⟨?y,?h⟩
 case h =>
  delta G
  dsimp only [b0,b1,b2,b3,b4,b5,b6,b7,b8,b9,b10,b11,b12,b13,b14,b15,b16,b17,b18,b19,b20,b21,b22,b23,b24,b25,b26,b27,b28,b29,b30,b31,b32,b33,b34,b35,b36,b37,b38,b39,b40,b41,b42,b43,b44,b45,b46,b47,b48,b49,b50,b51,b52,b53,b54,b55,b56,b57,b58,b59,b60,b61,b62,b63,b64,b65,b66,b67,b68,b69,b70,b71,b72,b73,b74,b75,b76,b77,b78,b79,b80,b81,b82,b83,b84,b85,b86,b87,b88,b89,b90,b91,b92,b93,b94,b95,b96,b97,b98,b99,b100,b101,b102,b103,b104,b105,b106,b107,b108,b109,b110,b111,b112,b113,b114,b115,b116,b117,b118,b119,b120,b121,b122,b123,b124,b125,b126,b127,b128,b129,b130,b131,b132,b133,b134,b135,b136,b137,b138,b139,b140,b141,b142,b143,b144,b145,b146,b147,b148,b149,b150,b151,b152,b153,b154,b155,b156,b157,b158,b159,b160,b161,b162]
  exact rfl
end PwT
noncomputable def PySem.W.Fast.tw472739759161405563:PySem.Program:=PwT.Y.1
theorem PySem.W.Fast.te472739759161405563:PySem.Challenge.pw_evenhub_k36_made_of_steps=PySem.W.Fast.tw472739759161405563:=(PwT.G.2.trans (congrArg PwT.G.1 PwT.AB)).trans PwT.Y.2
namespace Hd
open PySem PySem.W PwT
abbrev PO:=Params→Obj
abbrev PB:=Params→BT
abbrev LF:Life:=(PySem.Life.mk [] [] [] 0 [] [] Bool.false ⟨[]⟩ [] 0 Bool.false Bool.false Bool.false (Int.ofNat 0) [(Int.ofNat 2000),(Int.ofNat 10),(Int.ofNat 10)] Bool.false 0 Bool.true [] [] 0 Bool.false)
noncomputable def nN (a:PO)(l r:PB):PB:=fun P=>.node (a P) (l P) (r P)
noncomputable def nL (a:PO):PB:=fun P=>.node (a P) .nil .nil
noncomputable def nA (a:PO)(l:PB):PB:=fun P=>.node (a P) (l P) .nil
noncomputable abbrev TW:PySem.Program:=PySem.W.Fast.tw472739759161405563
noncomputable def tp (i:Nat):PySem.Stmt:=TW.main.body.getD i (.Pass ⟨0,0,0,0⟩)
noncomputable abbrev E (P:Params)(q:PySem.Str)(t:Nat)(v:Value):DictEntry:=⟨PyData.keyHash P q,.str q t,v⟩
noncomputable abbrev I (n t:Nat):Value:=.int (Int.ofNat n) t
noncomputable abbrev l0:String:=SL.s2766695959194262286x5
noncomputable def o0:PO:=fun P=>Obj.mk (.type l0) none (.seq ⟨[]⟩ 0) ⟨[]⟩
noncomputable def o2:PO:=fun P=>Obj.mk .none none (.fields ⟨[]⟩) ⟨[]⟩
noncomputable abbrev l1:String:=SL.s5856160107412720595x4
noncomputable def q0:Str:=⟨⟨[60,109,111,100,117,108,101,62]⟩⟩
noncomputable def ha (a:Str)(b:Nat)(c:Nat)(d:Nat):PO:=fun _=>Obj.mk (.type l1) none (.fields ⟨[(.str a b),(.str a (b+1)),(.str p162 (b+2)),(I c 0),(I 0 0),(I 0 0),(I 0 0),(I 0 0),(.ref d),(.bool Bool.false),(I 181 0),(.ref (d+1)),.none,.none,.none,.none,(I (b+3) 0),(I c 0),(.str p162 (b+4))]⟩) ⟨[]⟩
noncomputable def o3:PO:=ha q0 182 1 11
noncomputable abbrev l2:String:=SL.s658472552662922059x5
noncomputable def q2:Str:=⟨⟨[95,95,109,97,105,110,95,95]⟩⟩
noncomputable def hb (a:Nat)(b:Nat)(c:Str)(d:Nat):PO:=fun _=>Obj.mk (.type l2) none .plain ⟨[(some (.ref a)),(some (.ref 3)),(some (.ref b)),none,(some (.str c d)),none,(some (.ref 0))]⟩
noncomputable def o7:PO:=hb 13 3 q2 164
noncomputable def Ta:PB:=(nN boot_o_0 (nN boot_o_1 (nN boot_o_3 (nL boot_o_7) (nL o0)) (nN boot_o_5 (nL boot_o_9) (nL o3))) (nN boot_o_2 (nN boot_o_4 (nL boot_o_8) (nL o2)) (nN boot_o_6 (nL boot_o_10) (nL o7))))
noncomputable def Sta (w:PySem.World)(os:PySem.OsState):PySem.W.SharedT:=PySem.W.SharedT.mk (Ta w.params) 15 LF (Array.mk []) (PySem.Drawn.mk 0 0 0 0) 187 os
noncomputable def Tb:PB:=Ta
noncomputable def Stb (w:PySem.World)(os:PySem.OsState):PySem.W.SharedT:=PySem.W.SharedT.mk (Tb w.params) 15 LF (Array.mk []) (PySem.Drawn.mk 0 0 0 0) 187 os
noncomputable def env:PySem.Env:={ scope:=TW.main.scope,locals:=PySem.mainNs,globals:=PySem.mainNs,cells:=[],code:=(.ref 13),frame:=some 14 }
abbrev ann:Option PySem.Value:=(some (.ref 6))
abbrev m0:Nat:=11
abbrev Bs:List PySem.Frame:=[PySem.W.topFrame (PySem.Pos.mk 0 0 0 0)]
noncomputable abbrev cE:PySem.Code:=.body (behindTheImports TW) env
abbrev posA:PySem.Pos:=(PySem.Pos.mk 0 0 0 0)
abbrev posB:PySem.Pos:=(PySem.Pos.mk 0 0 0 0)
abbrev kA:Nat:=12
abbrev kB:Nat:=0
abbrev kF:Nat:=1
noncomputable abbrev l3:String:=SL.s14018661285674007319x4
noncomputable def q5:Str:=⟨⟨[95,95,100,111,99,95,95]⟩⟩
noncomputable def q6:Str:=⟨⟨[95,95,112,97,99,107,97,103,101,95,95]⟩⟩
noncomputable def q7:Str:=⟨⟨[95,95,108,111,97,100,101,114,95,95]⟩⟩
noncomputable abbrev l4:String:=SL.s7097527257260152453x26
noncomputable def q8:Str:=⟨⟨[95,95,115,112,101,99,95,95]⟩⟩
noncomputable def q9:Str:=⟨⟨[95,95,97,110,110,111,116,97,116,105,111,110,115,95,95]⟩⟩
noncomputable def q10:Str:=⟨⟨[95,95,98,117,105,108,116,105,110,115,95,95]⟩⟩
noncomputable def q11:Str:=⟨⟨[95,95,102,105,108,101,95,95]⟩⟩
noncomputable def q12:Str:=⟨⟨[95,95,99,97,99,104,101,100,95,95]⟩⟩
noncomputable def o24:PO:=fun P=>Obj.mk (.type l3) none (.dict ⟨[(E P p61 165 (.str p62 660)),(E P q5 166 .none),(E P q6 167 .none),(E P q7 168 (.builtin l4)),(E P q8 169 .none),(E P q9 170 (.ref 6)),(E P q10 171 (.ref 4)),(E P q11 173 (.str p162 172)),(E P q12 174 .none),(E P p160 206 (.ref 24)),(E P p135 222 (.ref 37)),(E P p140 238 (.ref 49)),(E P p148 242 (I 128 241)),(E P p156 253 (.ref 58)),(E P p67 261 (.ref 65)),(E P p85 273 (.ref 72)),(E P p145 281 (.ref 79)),(E P p144 292 (.ref 86)),(E P p150 305 (.ref 93)),(E P p52 317 (.ref 100)),(E P p124 325 (.ref 107)),(E P p98 338 (.ref 114)),(E P p134 347 (.ref 121)),(E P p107 356 (.ref 128)),(E P p56 364 (.ref 133)),(E P p90 425 (.ref 169)),(E P p94 431 (.ref 178)),(E P p78 443 (.ref 185)),(E P p121 449 (.ref 190)),(E P p93 455 (.ref 195)),(E P p122 468 (.ref 202)),(E P p116 474 (.ref 207)),(E P p118 483 (.ref 214)),(E P p73 489 (.ref 219)),(E P p106 495 (.ref 224)),(E P p105 501 (.ref 229)),(E P p108 507 (.ref 234)),(E P p111 513 (.ref 239)),(E P p113 519 (.ref 244)),(E P p99 528 (.ref 251)),(E P p75 537 (.ref 258)),(E P p95 541 (I 1000000007 540)),(E P p33 551 (.ref 265)),(E P p97 559 (.ref 272)),(E P p96 568 (.ref 279)),(E P p77 574 (.ref 284)),(E P p86 584 (.ref 291)),(E P p87 592 (.ref 298)),(E P p88 598 (.ref 303)),(E P p92 610 (.ref 310)),(E P p63 616 (.ref 315)),(E P p69 622 (.ref 320)),(E P p70 628 (.ref 325)),(E P p82 634 (.ref 330)),(E P p43 640 (.ref 335)),(E P p48 653 (.ref 342)),(E P p57 659 (.ref 347)),(E P p30 669 (.ref 354)),(E P p35 676 (.ref 361)),(E P p8 682 (.ref 366)),(E P p11 693 (.ref 373)),(E P p0 699 (.ref 378)),(E P p15 712 (.ref 385)),(E P p22 719 (.ref 392)),(E P p24 730 (.ref 399)),(E P p27 736 (.ref 404))]⟩ 66) ⟨[]⟩
noncomputable def o94:PO:=fun P=>Obj.mk .none none (.fields ⟨[(I 2 0),(I 0 0),(.ref 20),(I 4 0),(I 0 0),(.ref 33),(I 6 0),(I 0 0),(.ref 45),(I 10 0),(I 0 0),(.ref 57),(I 18 0),(I 0 0),(.ref 64),(I 20 0),(I 0 0),(.ref 71),(I 28 0),(I 0 0),(.ref 78),(I 30 0),(I 0 0),(.ref 85),(I 38 0),(I 0 0),(.ref 92),(I 52 0),(I 0 0),(.ref 99),(I 56 0),(I 0 0),(.ref 106),(I 60 0),(I 0 0),(.ref 113),(I 73 0),(I 0 0),(.ref 120),(I 78 0),(I 0 0),(.ref 127),(I 84 0),(I 0 0),(.ref 132),(I 88 0),(I 0 0),(.ref 139),(I 109 0),(I 0 0),(.ref 177),(I 111 0),(I 0 0),(.ref 184),(I 116 0),(I 0 0),(.ref 189),(I 118 0),(I 0 0),(.ref 194),(I 120 0),(I 0 0),(.ref 201),(I 128 0),(I 0 0),(.ref 206),(I 133 0),(I 0 0),(.ref 213),(I 138 0),(I 0 0),(.ref 218),(I 142 0),(I 0 0),(.ref 223),(I 144 0),(I 0 0),(.ref 228),(I 152 0),(I 0 0),(.ref 233),(I 167 0),(I 0 0),(.ref 238),(I 171 0),(I 0 0),(.ref 243),(I 179 0),(I 0 0),(.ref 250),(I 181 0),(I 0 0),(.ref 257),(I 186 0),(I 0 0),(.ref 264),(I 193 0),(I 0 0),(.ref 271),(I 198 0),(I 0 0),(.ref 278),(I 202 0),(I 0 0),(.ref 283),(I 207 0),(I 0 0),(.ref 290),(I 212 0),(I 0 0),(.ref 297),(I 216 0),(I 0 0),(.ref 302),(I 225 0),(I 0 0),(.ref 309),(I 235 0),(I 0 0),(.ref 314),(I 251 0),(I 0 0),(.ref 319),(I 253 0),(I 0 0),(.ref 324),(I 258 0),(I 0 0),(.ref 329),(I 270 0),(I 0 0),(.ref 334),(I 272 0),(I 0 0),(.ref 341),(I 279 0),(I 0 0),(.ref 346),(I 283 0),(I 0 0),(.ref 353),(I 287 0),(I 0 0),(.ref 360),(I 289 0),(I 0 0),(.ref 365),(I 293 0),(I 0 0),(.ref 372),(I 298 0),(I 0 0),(.ref 377),(I 307 0),(I 0 0),(.ref 384),(I 318 0),(I 0 0),(.ref 391),(I 326 0),(I 0 0),(.ref 398),(I 333 0),(I 0 0),(.ref 403)]⟩) ⟨[]⟩
noncomputable abbrev l5:String:=SL.s6070975301684473832x10
noncomputable def o95:PO:=fun P=>Obj.mk (.type l0) none (.seq ⟨[(.type l5)]⟩ 0) ⟨[]⟩
noncomputable abbrev l6:String:=SL.s11030030927630378310x26
noncomputable abbrev l7:String:=SL.s10062305145149207511x16
noncomputable abbrev l8:String:=SL.s17162191345867700912x4
noncomputable def o97:PO:=fun P=>Obj.mk (.type l6) none (.fields ⟨[(.builtin l7),(.type l8)]⟩) ⟨[]⟩
noncomputable def q70:Str:=⟨⟨[95,95,109,111,100,117,108,101,95,95]⟩⟩
noncomputable def q72:Str:=⟨⟨[95,95,113,117,97,108,110,97,109,101,95,95]⟩⟩
noncomputable def q73:Str:=⟨⟨[95,95,102,105,114,115,116,108,105,110,101,110,111,95,95]⟩⟩
noncomputable def q74:Str:=⟨⟨[95,95,115,116,97,116,105,99,95,97,116,116,114,105,98,117,116,101,115,95,95]⟩⟩
noncomputable def o101:PO:=fun P=>Obj.mk (.type l3) none (.dict ⟨[(E P q70 196 (.str p159 187)),(E P q72 198 (.str p160 197)),(E P q73 200 (I 2 199)),(E P q74 201 (.ref 22))]⟩ 4) ⟨[]⟩
noncomputable def o109:PO:=ha p160 191 2 18
noncomputable def o110:PO:=hb 20 17 p159 187
noncomputable def q75:Str:=⟨⟨[95,95,119,101,97,107,114,101,102,95,95]⟩⟩
noncomputable def o112:PO:=fun P=>Obj.mk (.type l3) none (.dict ⟨[(E P q70 196 (.str p159 187)),(E P q73 200 (I 2 199)),(E P q74 201 (.ref 22)),(E P q75 203 (.ref 25)),(E P q5 204 .none)]⟩ 3) ⟨[]⟩
noncomputable abbrev l9:String:=SL.s5946037652744460706x9
noncomputable abbrev l10:String:=SL.s4278001404047624695x13
noncomputable abbrev l11:String:=SL.s2742458400755230247x6
noncomputable abbrev l12:String:=SL.s4209523147560561109x18
noncomputable def o114:PO:=fun P=>Obj.mk (.type l8) none (.cls (PySem.ClassData.mk p160 [(.type l5)] [(.ref 24),(.type l5),(.type l9),(.type l10),(.type l11)] 23 p160 Bool.true [] [(.ref 37),(.ref 49)] Bool.false none Bool.false)) ⟨[(some (.ref 15)),none,(some (.str p160 189)),(some (.str p160 197)),(some (.builtin l12)),(some (.bool Bool.true))]⟩
noncomputable abbrev l13:String:=SL.s14755015743595814543x17
noncomputable abbrev l14:String:=SL.s10220274742760427390x26
noncomputable def o119:PO:=fun P=>Obj.mk (.type l13) none (.fields ⟨[(.str q75 202),(.ref 24),(.builtin l14),.none]⟩) ⟨[]⟩
noncomputable abbrev l15:String:=SL.s4290257624100764138x5
noncomputable def hc (a:Nat):PO:=fun _=>Obj.mk (.type l15) none (.fields ⟨[(.ref a),(.ref a),(.ref a)]⟩) ⟨[]⟩
noncomputable def o122:PO:=hc 24
noncomputable abbrev l16:String:=SL.s4860613602091757760x24
noncomputable def hd (a:Nat):PO:=fun _=>Obj.mk (.type l6) none (.fields ⟨[(.builtin l16),(.ref a)]⟩) ⟨[]⟩
noncomputable def o124:PO:=hd 24
noncomputable def o126:PO:=fun P=>Obj.mk (.type l0) none (.seq ⟨[(.ref 24)]⟩ 0) ⟨[]⟩
noncomputable def o128:PO:=fun P=>Obj.mk (.type l3) none (.dict ⟨[(E P q70 214 (.str p159 187)),(E P q72 216 (.str p135 215)),(E P q73 218 (I 4 217)),(E P q74 219 (.ref 35))]⟩ 4) ⟨[]⟩
noncomputable def o131:PO:=ha p135 209 4 31
noncomputable def o132:PO:=hb 33 30 p159 187
noncomputable def o134:PO:=fun P=>Obj.mk (.type l3) none (.dict ⟨[(E P q70 214 (.str p159 187)),(E P q73 218 (I 4 217)),(E P q74 219 (.ref 35)),(E P q5 220 .none)]⟩ 2) ⟨[]⟩
noncomputable def o135:PO:=fun P=>Obj.mk (.type l8) none (.cls (PySem.ClassData.mk p135 [(.ref 24)] [(.ref 37),(.ref 24),(.type l5),(.type l9),(.type l10),(.type l11)] 36 p135 Bool.true [] [] Bool.false none Bool.false)) ⟨[(some (.ref 28)),none,(some (.str p135 207)),(some (.str p135 215)),(some (.builtin l12)),(some (.bool Bool.true))]⟩
noncomputable def o136:PO:=hc 37
noncomputable def o137:PO:=hd 37
noncomputable def o140:PO:=fun P=>Obj.mk (.type l3) none (.dict ⟨[(E P q70 230 (.str p159 187)),(E P q72 232 (.str p140 231)),(E P q73 234 (I 6 233)),(E P q74 235 (.ref 47))]⟩ 4) ⟨[]⟩
noncomputable def o143:PO:=ha p140 225 6 43
noncomputable def o144:PO:=hb 45 42 p159 187
noncomputable def o146:PO:=fun P=>Obj.mk (.type l3) none (.dict ⟨[(E P q70 230 (.str p159 187)),(E P q73 234 (I 6 233)),(E P q74 235 (.ref 47)),(E P q5 236 .none)]⟩ 2) ⟨[]⟩
noncomputable def o147:PO:=fun P=>Obj.mk (.type l8) none (.cls (PySem.ClassData.mk p140 [(.ref 24)] [(.ref 49),(.ref 24),(.type l5),(.type l9),(.type l10),(.type l11)] 48 p140 Bool.true [] [] Bool.false none Bool.false)) ⟨[(some (.ref 40)),none,(some (.str p140 223)),(some (.str p140 231)),(some (.builtin l12)),(some (.bool Bool.true))]⟩
noncomputable def o148:PO:=hc 49
noncomputable def o149:PO:=hd 49
noncomputable def he (a:Str)(b:Nat)(c:Str)(d:Str)(e:Str)(f:Str):PO:=fun _=>Obj.mk (.type l0) none (.seq ⟨[(.str a b),(.str c (b+1)),(.str d (b+2)),(.str e (b+3)),(.str f (b+4))]⟩ 0) ⟨[]⟩
noncomputable def o152:PO:=he p39 246 p44 p157 p158 p71
noncomputable def hf (a:Str)(b:Nat):PO:=fun _=>Obj.mk .none none (.func { fnOf a a (L2.wA (tp b)) (L2.vY (tp b)) (L2.zJ (tp b)) .none .none .none .none none .none .none with globals:=0,builtins:=0 }) ⟨[]⟩
noncomputable def o159:PO:=hf p156 6
noncomputable def hg (a:Str)(b:Nat)(c:Str)(d:Nat)(e:Nat)(f:Nat)(g:Value)(h:Value)(i:Nat)(j:Nat):PO:=fun _=>Obj.mk (.type l1) none (.fields ⟨[(.str a b),(.str c (b+1)),(.str p162 (b+2)),(I d 0),(I e 0),(I 0 0),(I 0 0),(I 3 0),(.ref f),(.bool Bool.true),(I 181 0),(.ref (f+1)),.none,g,h,(.ref i),(I j 0),(I d 0),(.str p162 (j+1))]⟩) ⟨[]⟩
noncomputable def o160:PO:=hg p156 243 p156 10 2 52 (.ref 54) (.ref 55) 56 251
noncomputable abbrev l17:String:=SL.s7174869446012820540x8
noncomputable def hh (a:Str)(b:Nat)(c:Str)(d:Nat)(e:Nat):PO:=fun _=>Obj.mk (.type l17) none (.func (fnOf a a (L2.wA (tp b)) (L2.vY (tp b)) (L2.zJ (tp b)) .none .none .none (.str c d) none (.ref e) .none)) ⟨[]⟩
noncomputable def o161:PO:=hh p156 6 p155 239 57
noncomputable def hi (a:Str)(b:Nat)(c:Str):PO:=fun _=>Obj.mk (.type l0) none (.seq ⟨[(.str a b),(.str c (b+1))]⟩ 0) ⟨[]⟩
noncomputable def o166:PO:=hi p39 257 p44
noncomputable def o168:PO:=hf p67 7
noncomputable def o169:PO:=hg p67 254 p67 18 2 59 (.ref 61) (.ref 62) 63 259
noncomputable def o170:PO:=hh p67 7 p155 239 64
noncomputable def o173:PO:=fun P=>Obj.mk (.type l0) none (.seq ⟨[(.str p39 265),(.str p44 266),(.str p101 267),(.str p110 268),(.str p26 269),(.str p143 270)]⟩ 0) ⟨[]⟩
noncomputable def o179:PO:=hf p85 8
noncomputable def o180:PO:=hg p85 262 p85 20 3 66 (.ref 68) (.ref 69) 70 271
noncomputable def o181:PO:=hh p85 8 p155 239 71
noncomputable def o184:PO:=hi p146 277 p143
noncomputable def o187:PO:=hf p145 9
noncomputable def o188:PO:=hg p145 274 p145 28 2 73 (.ref 75) (.ref 76) 77 279
noncomputable def o189:PO:=hh p145 9 p155 239 78
noncomputable def o192:PO:=he p110 285 p101 p147 p149 p143
noncomputable def o196:PO:=hf p144 10
noncomputable def o197:PO:=hg p144 282 p144 30 2 80 (.ref 82) (.ref 83) 84 290
noncomputable def o198:PO:=hh p144 10 p155 239 85
noncomputable def hj (a:Str)(b:Nat)(c:Str)(d:Str)(e:Str)(f:Str)(g:Str)(h:Str):PO:=fun _=>Obj.mk (.type l0) none (.seq ⟨[(.str a b),(.str c (b+1)),(.str d (b+2)),(.str e (b+3)),(.str f (b+4)),(.str g (b+5)),(.str h (b+6))]⟩ 0) ⟨[]⟩
noncomputable def o201:PO:=hj p103 296 p151 p143 p25 p152 p153 p154
noncomputable def o209:PO:=hf p150 11
noncomputable def o210:PO:=hg p150 293 p150 38 2 87 (.ref 89) (.ref 90) 91 303
noncomputable def o211:PO:=hh p150 11 p155 239 92
noncomputable def o214:PO:=fun P=>Obj.mk (.type l0) none (.seq ⟨[(.str p131 311),(.str p139 312),(.str p117 313),(.str p83 314)]⟩ 0) ⟨[]⟩
noncomputable def o220:PO:=hf p52 13
noncomputable def o221:PO:=hg p52 308 p52 52 3 94 (.ref 96) (.ref 97) 98 315
noncomputable def o222:PO:=hh p52 13 p138 306 99
noncomputable def o226:PO:=hi p39 321 p44
noncomputable def o228:PO:=hf p124 14
noncomputable def o229:PO:=hg p124 318 p124 56 2 101 (.ref 103) (.ref 104) 105 323
noncomputable def o230:PO:=hh p124 14 p138 306 106
noncomputable def o233:PO:=he p131 331 p1 p71 p132 p133
noncomputable def o238:PO:=hf p98 16
noncomputable def o239:PO:=hg p98 328 p98 60 1 108 (.ref 110) (.ref 111) 112 336
noncomputable def o240:PO:=hh p98 16 p142 326 113
noncomputable def hk (a:Str)(b:Nat)(c:Str)(d:Str):PO:=fun _=>Obj.mk (.type l0) none (.seq ⟨[(.str a b),(.str c (b+1)),(.str d (b+2))]⟩ 0) ⟨[]⟩
noncomputable def o244:PO:=hk p131 342 p132 p133
noncomputable def o246:PO:=hf p134 17
noncomputable def o247:PO:=hg p134 339 p134 73 2 115 (.ref 117) (.ref 118) 119 345
noncomputable def o248:PO:=hh p134 17 p142 326 120
noncomputable def o251:PO:=hk p12 351 p131 p59
noncomputable def o255:PO:=hf p107 18
noncomputable def o256:PO:=hg p107 348 p107 78 2 122 (.ref 124) (.ref 125) 126 354
noncomputable def o257:PO:=hh p107 18 p142 326 127
noncomputable def o260:PO:=hf p56 20
noncomputable def o261:PO:=hg p56 359 p56 84 2 129 .none .none 131 362
noncomputable def o262:PO:=hh p56 20 p137 357 132
noncomputable def o266:PO:=fun P=>Obj.mk (.type l3) none (.dict ⟨[(E P q70 374 (.str jZ 365)),(E P q72 376 (.str p90 375)),(E P q73 378 (I 88 377)),(E P p127 384 (.ref 145)),(E P p91 392 (.ref 152)),(E P p26 400 (.ref 159)),(E P p41 409 (.ref 166)),(E P q74 418 (.ref 167))]⟩ 8) ⟨[]⟩
noncomputable def o272:PO:=fun P=>Obj.mk .none none (.fields ⟨[(I 90 0),(I 4 0),(.ref 144),(I 100 0),(I 4 0),(.ref 151),(I 103 0),(I 4 0),(.ref 158),(I 106 0),(I 4 0),(.ref 165)]⟩) ⟨[]⟩
noncomputable def o273:PO:=ha p90 369 88 137
noncomputable def o274:PO:=hb 139 136 jZ 365
noncomputable def q111:Str:=⟨⟨[70,114,97,109,101,46,95,95,105,110,105,116,95,95]⟩⟩
noncomputable def hl (a:Str)(b:Str)(c:Nat):PO:=fun _=>Obj.mk .none none (.func { fnOf a b (L2.wA (L2.inClass (tp 22) c)) (L2.vY (L2.inClass (tp 22) c)) (L2.zJ (L2.inClass (tp 22) c)) .none .none .none .none none .none .none with globals:=0,builtins:=0 }) ⟨[]⟩
noncomputable def o277:PO:=hl p127 q111 0
noncomputable def o279:PO:=hg p127 379 q111 90 4 141 .none .none 143 382
noncomputable def hm (a:Str)(b:Str)(c:Nat)(d:Nat):PO:=fun _=>Obj.mk (.type l17) none (.func (fnOf a b (L2.wA (L2.inClass (tp 22) c)) (L2.vY (L2.inClass (tp 22) c)) (L2.zJ (L2.inClass (tp 22) c)) .none .none .none (.str jZ 365) none (.ref d) .none)) ⟨[]⟩
noncomputable def o280:PO:=hm p127 q111 0 144
noncomputable def o283:PO:=hi p128 388 p3
noncomputable def q114:Str:=⟨⟨[70,114,97,109,101,46,109,105,115,115,101,100]⟩⟩
noncomputable def o287:PO:=hl p91 q114 1
noncomputable def o289:PO:=hg p91 385 q114 100 2 146 (.ref 148) (.ref 149) 150 390
noncomputable def o290:PO:=hm p91 q114 1 151
noncomputable def o293:PO:=hi p128 396 p3
noncomputable def q115:Str:=⟨⟨[70,114,97,109,101,46,99,111,117,110,116,115]⟩⟩
noncomputable def o295:PO:=hl p26 q115 2
noncomputable def o297:PO:=hg p26 393 q115 103 2 153 (.ref 155) (.ref 156) 157 398
noncomputable def o298:PO:=hm p26 q115 2 158
noncomputable def o301:PO:=hk p128 404 p51 p59
noncomputable def q117:Str:=⟨⟨[70,114,97,109,101,46,119,101,105,103,104,116,115]⟩⟩
noncomputable def o304:PO:=hl p41 q117 3
noncomputable def o306:PO:=hg p41 401 q117 106 2 160 (.ref 162) (.ref 163) 164 407
noncomputable def o307:PO:=hm p41 q117 3 165
noncomputable def o308:PO:=fun P=>Obj.mk (.type l0) none (.seq ⟨[(.str p79 410),(.str p129 411),(.str p1 412),(.str p46 413),(.str p89 414),(.str p68 415),(.str p81 416),(.str p109 417)]⟩ 0) ⟨[]⟩
noncomputable def q125:Str:=⟨⟨[95,95,100,105,99,116,95,95]⟩⟩
noncomputable def o316:PO:=fun P=>Obj.mk (.type l3) none (.dict ⟨[(E P q70 374 (.str jZ 365)),(E P q73 378 (I 88 377)),(E P p127 384 (.ref 145)),(E P p91 392 (.ref 152)),(E P p26 400 (.ref 159)),(E P p41 409 (.ref 166)),(E P q74 418 (.ref 167)),(E P q125 420 (.ref 170)),(E P q75 422 (.ref 171)),(E P q5 423 .none)]⟩ 4) ⟨[]⟩
noncomputable abbrev l18:String:=SL.s11443829558043349243x14
noncomputable def o318:PO:=fun P=>Obj.mk (.type l8) none (.cls (PySem.ClassData.mk p90 [(.type l11)] [(.ref 169),(.type l11)] 168 p90 Bool.true [] [] Bool.false none Bool.false)) ⟨[none,none,(some (.str p90 367)),(some (.str p90 375)),(some (.builtin l18)),(some (.bool Bool.true))]⟩
noncomputable abbrev l19:String:=SL.s6511155373996960695x17
noncomputable abbrev l20:String:=SL.s12411053484034534018x21
noncomputable def o320:PO:=fun P=>Obj.mk (.type l13) none (.fields ⟨[(.str q125 419),(.ref 169),(.builtin l19),(.builtin l20)]⟩) ⟨[]⟩
noncomputable def o323:PO:=fun P=>Obj.mk (.type l13) none (.fields ⟨[(.str q75 421),(.ref 169),(.builtin l14),.none]⟩) ⟨[]⟩
noncomputable def o324:PO:=hc 169
noncomputable def o325:PO:=hd 169
noncomputable def o328:PO:=hf p94 23
noncomputable def o329:PO:=hg p94 426 p94 109 2 174 .none .none 176 429
noncomputable def o330:PO:=hh p94 23 jZ 365 177
noncomputable def o333:PO:=fun P=>Obj.mk (.type l0) none (.seq ⟨[(.str p81 435),(.str p120 436),(.str p19 437),(.str p83 438),(.str p53 439),(.str p21 440)]⟩ 0) ⟨[]⟩
noncomputable def o339:PO:=hf p78 24
noncomputable def o340:PO:=hg p78 432 p78 111 3 179 (.ref 181) (.ref 182) 183 441
noncomputable def o341:PO:=hh p78 24 jZ 365 184
noncomputable def o344:PO:=hf p121 25
noncomputable def o345:PO:=hg p121 444 p121 116 1 186 .none .none 188 447
noncomputable def o346:PO:=hh p121 25 jZ 365 189
noncomputable def o349:PO:=hf p93 26
noncomputable def o350:PO:=hg p93 450 p93 118 2 191 .none .none 193 453
noncomputable def o351:PO:=hh p93 26 jZ 365 194
noncomputable def o354:PO:=hj p2 459 p89 p1 p21 p12 p71 p50
noncomputable def o358:PO:=hf p122 27
noncomputable def o359:PO:=hg p122 456 p122 120 2 196 (.ref 198) (.ref 199) 200 466
noncomputable def o360:PO:=hh p122 27 jZ 365 201
noncomputable def o363:PO:=hf p116 28
noncomputable def o364:PO:=hg p116 469 p116 128 3 203 .none .none 205 472
noncomputable def o365:PO:=hh p116 28 jZ 365 206
noncomputable def o368:PO:=hk p40 478 p50 p21
noncomputable def o371:PO:=hf p118 29
noncomputable def o372:PO:=hg p118 475 p118 133 1 208 (.ref 210) (.ref 211) 212 481
noncomputable def o373:PO:=hh p118 29 jZ 365 213
noncomputable def o376:PO:=hf p73 30
noncomputable def o377:PO:=hg p73 484 p73 138 4 215 .none .none 217 487
noncomputable def o378:PO:=hh p73 30 jZ 365 218
noncomputable def o381:PO:=hf p106 31
noncomputable def o382:PO:=hg p106 490 p106 142 3 220 .none .none 222 493
noncomputable def o383:PO:=hh p106 31 jZ 365 223
noncomputable def o386:PO:=hf p105 32
noncomputable def o387:PO:=hg p105 496 p105 144 2 225 .none .none 227 499
noncomputable def o388:PO:=hh p105 32 jZ 365 228
noncomputable def o391:PO:=hf p108 33
noncomputable def o392:PO:=hg p108 502 p108 152 4 230 .none .none 232 505
noncomputable def o393:PO:=hh p108 33 jZ 365 233
noncomputable def o396:PO:=hf p111 34
noncomputable def o397:PO:=hg p111 508 p111 167 3 235 .none .none 237 511
noncomputable def o398:PO:=hh p111 34 jZ 365 238
noncomputable def o401:PO:=hf p113 35
noncomputable def o402:PO:=hg p113 514 p113 171 2 240 .none .none 242 517
noncomputable def o403:PO:=hh p113 35 jZ 365 243
noncomputable def o406:PO:=hk p21 523 p100 p101
noncomputable def o409:PO:=hf p99 36
noncomputable def o410:PO:=hg p99 520 p99 179 3 245 (.ref 247) (.ref 248) 249 526
noncomputable def o411:PO:=hh p99 36 jZ 365 250
noncomputable def o414:PO:=hk p21 532 p100 p103
noncomputable def o416:PO:=hf p75 37
noncomputable def o417:PO:=hg p75 529 p75 181 2 252 (.ref 254) (.ref 255) 256 535
noncomputable def o418:PO:=hh p75 37 jZ 365 257
noncomputable def o421:PO:=fun P=>Obj.mk (.type l0) none (.seq ⟨[(.str p2 545),(.str p3 546),(.str p89 547),(.str p59 548)]⟩ 0) ⟨[]⟩
noncomputable def o423:PO:=hf p33 40
noncomputable def o424:PO:=hg p33 542 p33 186 2 259 (.ref 261) (.ref 262) 263 549
noncomputable def o425:PO:=hh p33 40 zBm 538 264
noncomputable def o429:PO:=hi p21 555 p1
noncomputable def o431:PO:=hf p97 41
noncomputable def o432:PO:=hg p97 552 p97 193 1 266 (.ref 268) (.ref 269) 270 557
noncomputable def o433:PO:=hh p97 41 zBm 538 271
noncomputable def o436:PO:=hk p2 563 p3 p59
noncomputable def o438:PO:=hf p96 42
noncomputable def o439:PO:=hg p96 560 p96 198 3 273 (.ref 275) (.ref 276) 277 566
noncomputable def o440:PO:=hh p96 42 zBm 538 278
noncomputable def o443:PO:=hf p77 43
noncomputable def o444:PO:=hg p77 569 p77 202 3 280 .none .none 282 572
noncomputable def o445:PO:=hh p77 43 zBm 538 283
noncomputable def o448:PO:=fun P=>Obj.mk (.type l0) none (.seq ⟨[(.str p2 578),(.str p60 579),(.str p21 580),(.str p12 581)]⟩ 0) ⟨[]⟩
noncomputable def o451:PO:=hf p86 44
noncomputable def o452:PO:=hg p86 575 p86 207 2 285 (.ref 287) (.ref 288) 289 582
noncomputable def o453:PO:=hh p86 44 zBm 538 290
noncomputable def o456:PO:=hi p46 588 p21
noncomputable def o458:PO:=hf p87 45
noncomputable def o459:PO:=hg p87 585 p87 212 2 292 (.ref 294) (.ref 295) 296 590
noncomputable def o460:PO:=hh p87 45 zBm 538 297
noncomputable def o463:PO:=hf p88 46
noncomputable def o464:PO:=hg p88 593 p88 216 3 299 .none .none 301 596
noncomputable def o465:PO:=hh p88 46 zBm 538 302
noncomputable def o468:PO:=fun P=>Obj.mk (.type l0) none (.seq ⟨[(.str p2 602),(.str p58 603),(.str p65 604),(.str p64 605),(.str p59 606),(.str p21 607)]⟩ 0) ⟨[]⟩
noncomputable def o473:PO:=hf p92 47
noncomputable def o474:PO:=hg p92 599 p92 225 3 304 (.ref 306) (.ref 307) 308 608
noncomputable def o475:PO:=hh p92 47 zBm 538 309
noncomputable def o478:PO:=hf p63 48
noncomputable def o479:PO:=hg p63 611 p63 235 4 311 .none .none 313 614
noncomputable def o480:PO:=hh p63 48 zBm 538 314
noncomputable def o483:PO:=hf p69 49
noncomputable def o484:PO:=hg p69 617 p69 251 2 316 .none .none 318 620
noncomputable def o485:PO:=hh p69 49 zBm 538 319
noncomputable def o488:PO:=hf p70 50
noncomputable def o489:PO:=hg p70 623 p70 253 3 321 .none .none 323 626
noncomputable def o490:PO:=hh p70 50 zBm 538 324
noncomputable def o493:PO:=hf p82 51
noncomputable def o494:PO:=hg p82 629 p82 258 3 326 .none .none 328 632
noncomputable def o495:PO:=hh p82 51 zBm 538 329
noncomputable def o498:PO:=hf p43 52
noncomputable def o499:PO:=hg p43 635 p43 270 5 331 .none .none 333 638
noncomputable def o500:PO:=hh p43 52 zBm 538 334
noncomputable def o503:PO:=hj p49 644 p50 p46 p51 p53 p54 p55
noncomputable def o508:PO:=hf p48 53
noncomputable def o509:PO:=hg p48 641 p48 272 3 336 (.ref 338) (.ref 339) 340 651
noncomputable def o510:PO:=hh p48 53 zBm 538 341
noncomputable def o513:PO:=hf p57 54
noncomputable def o514:PO:=hg p57 654 p57 279 2 343 .none .none 345 657
noncomputable def o515:PO:=hh p57 54 zBm 538 346
noncomputable def o518:PO:=hi p28 665 p9
noncomputable def o522:PO:=hf p30 56
noncomputable def o523:PO:=hg p30 662 p30 283 2 348 (.ref 350) (.ref 351) 352 667
noncomputable def o524:PO:=hh p30 56 p62 660 353
noncomputable def o527:PO:=fun P=>Obj.mk (.type l0) none (.seq ⟨[(.str p1 673)]⟩ 0) ⟨[]⟩
noncomputable def o529:PO:=hf p35 57
noncomputable def o530:PO:=hg p35 670 p35 287 1 355 (.ref 357) (.ref 358) 359 674
noncomputable def o531:PO:=hh p35 57 p62 660 360
noncomputable def o534:PO:=hf p8 58
noncomputable def o535:PO:=hg p8 677 p8 289 2 362 .none .none 364 680
noncomputable def o536:PO:=hh p8 58 p62 660 365
noncomputable def o539:PO:=he p40 686 p41 p17 p39 p25
noncomputable def o542:PO:=hf p11 59
noncomputable def o543:PO:=hg p11 683 p11 293 2 367 (.ref 369) (.ref 370) 371 691
noncomputable def o544:PO:=hh p11 59 p62 660 372
noncomputable def o547:PO:=hf p0 60
noncomputable def o548:PO:=hg p0 694 p0 298 3 374 .none .none 376 697
noncomputable def o549:PO:=hh p0 60 p62 660 377
noncomputable def o552:PO:=hj p16 703 p17 p18 p19 p9 p20 p21
noncomputable def o557:PO:=hf p15 61
noncomputable def o558:PO:=hg p15 700 p15 307 3 379 (.ref 381) (.ref 382) 383 710
noncomputable def o559:PO:=hh p15 61 p62 660 384
noncomputable def o562:PO:=fun P=>Obj.mk (.type l0) none (.seq ⟨[(.str p23 716)]⟩ 0) ⟨[]⟩
noncomputable def o565:PO:=hf p22 62
noncomputable def o566:PO:=hg p22 713 p22 318 1 386 (.ref 388) (.ref 389) 390 717
noncomputable def o567:PO:=hh p22 62 p62 660 391
noncomputable def o570:PO:=he p16 723 p25 p26 p9 p21
noncomputable def o572:PO:=hf p24 63
noncomputable def o573:PO:=hg p24 720 p24 326 2 393 (.ref 395) (.ref 396) 397 728
noncomputable def o574:PO:=hh p24 63 p62 660 398
noncomputable def o577:PO:=hf p27 64
noncomputable def o578:PO:=hg p27 731 p27 333 1 400 .none .none 402 734
noncomputable def o579:PO:=hh p27 64 p62 660 403
noncomputable def T0:PB:=(nN boot_o_0 (nN boot_o_1 (nN o24 (nN boot_o_7 (nN o95 (nN o0 (nN o168 (nN o256 (nL o0) (nL o557)) (nA o0 (nL o484))) (nN o2 (nA o298 (nL o448)) (nA o382 (nL o0)))) (nN o0 (nN o189 (nN o277 (nL o432) (nL o574)) (nA o365 (nL o500))) (nN o0 (nA o2 (nL o465)) (nA o398 (nL o0))))) (nN o112 (nN o137 (nN o180 (nN o97 (nL o423) (nL o566)) (nA o0 (nL o2))) (nN o226 (nA o308 (nL o0)) (nA o2 (nL o529)))) (nN o0 (nN o0 (nA o289 (nL o440)) (nA o0 (nL o0))) (nN o246 (nA o339 (nL o0)) (nA o406 (nL o2)))))) (nN o0 (nN o2 (nN o0 (nN o2 (nN o260 (nL o0) (nL o2)) (nA o351 (nL o488))) (nN o221 (nA o0 (nL o453)) (nA o386 (nL o0)))) (nN o149 (nN o0 (nN o2 (nL o436) (nL o578)) (nA o0 (nL o0))) (nN o0 (nA o0 (nL o0)) (nA o402 (nL o542))))) (nN o124 (nN o0 (nN o184 (nN o273 (nL o2) (nL o570)) (nA o0 (nL o0))) (nN o230 (nA o323 (nL o0)) (nA o0 (nL o2)))) (nN o0 (nN o209 (nA o293 (nL o444)) (nA o378 (nL o515))) (nN o2 (nA o2 (nL o480)) (nA o411 (nL o0))))))) (nN boot_o_5 (nN boot_o_9 (nN o101 (nN o131 (nN o170 (nN o0 (nL o417) (nL o559)) (nA o349 (nL o0))) (nN o0 (nA o2 (nL o451)) (nA o0 (nL o523)))) (nN o147 (nN o2 (nN o280 (nL o0) (nL o2)) (nA o2 (nL o2))) (nN o239 (nA o329 (nL o2)) (nA o2 (nL o539))))) (nN o119 (nN o97 (nN o0 (nN o0 (nL o425) (nL o0)) (nA o359 (nL o494))) (nN o228 (nA o318 (nL o459)) (nA o392 (nL o531)))) (nN o160 (nN o201 (nA o0 (nL o2)) (nA o376 (nL o513))) (nN o248 (nA o341 (nL o478)) (nA o409 (nL o548)))))) (nN o3 (nN o110 (nN o135 (nN o0 (nN o262 (nL o421) (nL o0)) (nA o2 (nL o490))) (nN o0 (nA o306 (nL o2)) (nA o388 (nL o527)))) (nN o2 (nN o197 (nA o0 (nL o438)) (nA o372 (nL o509))) (nN o244 (nA o333 (nL o474)) (nA o0 (nL o544))))) (nN o97 (nN o143 (nN o187 (nN o0 (nL o0) (nL o572)) (nA o363 (nL o498))) (nN o2 (nA o325 (nL o463)) (nA o396 (nL o535)))) (nN o166 (nN o211 (nA o295 (nL o0)) (nA o2 (nL o2))) (nN o0 (nA o345 (nL o2)) (nA o2 (nL o552)))))))) (nN boot_o_2 (nN boot_o_4 (nN boot_o_8 (nN o97 (nN o2 (nN o169 (nN o257 (nL o416) (nL o558)) (nA o2 (nL o485))) (nN o214 (nA o0 (nL o0)) (nA o383 (nL o522)))) (nN o146 (nN o0 (nN o279 (nL o433) (nL o0)) (nA o0 (nL o0))) (nN o238 (nA o328 (nL o0)) (nA o0 (nL o2))))) (nN o114 (nN o126 (nN o181 (nN o266 (nL o424) (nL o567)) (nA o358 (nL o493))) (nN o0 (nA o316 (nL o458)) (nA o391 (nL o530)))) (nN o159 (nN o2 (nA o290 (nL o0)) (nA o2 (nL o2))) (nN o247 (nA o340 (nL o2)) (nA o0 (nL o547)))))) (nN o94 (nN o109 (nN o134 (nN o173 (nN o261 (nL o2) (nL o562)) (nA o0 (nL o489))) (nN o222 (nA o304 (nL o0)) (nA o387 (nL o2)))) (nN o0 (nN o196 (nN o283 (nL o0) (nL o579)) (nA o371 (nL o508))) (nN o2 (nA o2 (nL o473)) (nA o403 (nL o543))))) (nN o126 (nN o2 (nN o0 (nN o274 (nL o429) (nL o0)) (nA o2 (nL o2))) (nN o0 (nA o324 (nL o2)) (nA o2 (nL o534)))) (nN o2 (nN o210 (nA o0 (nL o445)) (nA o0 (nL o0))) (nN o251 (nA o344 (nL o0)) (nA o0 (nL o2))))))) (nN boot_o_6 (nN boot_o_10 (nN o0 (nN o132 (nN o0 (nN o2 (nL o418) (nL o0)) (nA o350 (nL o2))) (nN o220 (nA o301 (nL o452)) (nA o2 (nL o524)))) (nN o148 (nN o192 (nN o0 (nL o2) (nL o577)) (nA o368 (nL o503))) (nN o240 (nA o330 (nL o468)) (nA o401 (nL o0))))) (nN o122 (nN o140 (nN o2 (nN o272 (nL o0) (nL o2)) (nA o360 (nL o495))) (nN o229 (nA o320 (nL o460)) (nA o393 (nL o0)))) (nN o161 (nN o0 (nA o2 (nL o443)) (nA o377 (nL o514))) (nN o0 (nA o0 (nL o479)) (nA o410 (nL o549)))))) (nN o7 (nN o0 (nN o136 (nN o179 (nN o0 (nL o0) (nL o565)) (nA o354 (nL o0))) (nN o2 (nA o307 (nL o456)) (nA o0 (nL o0)))) (nN o152 (nN o198 (nA o287 (nL o439)) (nA o373 (nL o510))) (nN o0 (nA o0 (nL o475)) (nA o2 (nL o0))))) (nN o128 (nN o144 (nN o188 (nN o2 (nL o431) (nL o573)) (nA o364 (nL o499))) (nN o233 (nA o0 (nL o464)) (nA o397 (nL o536)))) (nN o0 (nN o0 (nA o297 (nL o2)) (nA o381 (nL o518))) (nN o255 (nA o346 (nL o483)) (nA o414 (nL o0)))))))))
noncomputable def St0 (w:PySem.World)(os:PySem.OsState):PySem.W.SharedT:=PySem.W.SharedT.mk (T0 w.params) 405 LF (Array.mk []) (PySem.Drawn.mk 0 0 0 0) 737 os
noncomputable def Tf:PB:=T0
noncomputable def Stf (w:PySem.World)(os:PySem.OsState):PySem.W.SharedT:=PySem.W.SharedT.mk (Tf w.params) 405 LF (Array.mk []) (PySem.Drawn.mk 0 0 0 0) 737 os
noncomputable def KF:PySem.Params→PySem.W.Frag:=fun P=>[(0,boot_o_0 P),(1,boot_o_1 P),(2,boot_o_2 P),(3,o24 P),(4,boot_o_4 P),(5,boot_o_5 P),(6,boot_o_6 P),(7,boot_o_7 P),(8,boot_o_8 P),(9,boot_o_9 P),(10,boot_o_10 P),(11,o0 P),(12,o94 P),(13,o3 P),(14,o7 P),(15,o95 P),(22,o0 P),(23,o112 P),(24,o114 P),(25,o119 P),(28,o126 P),(35,o0 P),(36,o134 P),(37,o135 P),(40,o126 P),(47,o0 P),(48,o146 P),(49,o147 P),(52,o0 P),(53,o2 P),(54,o152 P),(55,o0 P),(56,o159 P),(57,o160 P),(58,o161 P),(59,o0 P),(60,o2 P),(61,o166 P),(62,o0 P),(63,o168 P),(64,o169 P),(65,o170 P),(66,o0 P),(67,o2 P),(68,o173 P),(69,o0 P),(70,o179 P),(71,o180 P),(72,o181 P),(73,o0 P),(74,o2 P),(75,o184 P),(76,o0 P),(77,o187 P),(78,o188 P),(79,o189 P),(80,o0 P),(81,o2 P),(82,o192 P),(83,o0 P),(84,o196 P),(85,o197 P),(86,o198 P),(87,o0 P),(88,o2 P),(89,o201 P),(90,o0 P),(91,o209 P),(92,o210 P),(93,o211 P),(94,o0 P),(95,o2 P),(96,o214 P),(97,o0 P),(98,o220 P),(99,o221 P),(100,o222 P),(101,o0 P),(102,o2 P),(103,o226 P),(104,o0 P),(105,o228 P),(106,o229 P),(107,o230 P),(108,o0 P),(109,o2 P),(110,o233 P),(111,o0 P),(112,o238 P),(113,o239 P),(114,o240 P),(115,o0 P),(116,o2 P),(117,o244 P),(118,o0 P),(119,o246 P),(120,o247 P),(121,o248 P),(122,o0 P),(123,o2 P),(124,o251 P),(125,o0 P),(126,o255 P),(127,o256 P),(128,o257 P),(129,o0 P),(130,o2 P),(131,o260 P),(132,o261 P),(133,o262 P),(141,o0 P),(142,o2 P),(143,o277 P),(144,o279 P),(145,o280 P),(146,o0 P),(147,o2 P),(148,o283 P),(149,o0 P),(150,o287 P),(151,o289 P),(152,o290 P),(153,o0 P),(154,o2 P),(155,o293 P),(156,o0 P),(157,o295 P),(158,o297 P),(159,o298 P),(160,o0 P),(161,o2 P),(162,o301 P),(163,o0 P),(164,o304 P),(165,o306 P),(166,o307 P),(167,o308 P),(168,o316 P),(169,o318 P),(170,o320 P),(171,o323 P),(174,o0 P),(175,o2 P),(176,o328 P),(177,o329 P),(178,o330 P),(179,o0 P),(180,o2 P),(181,o333 P),(182,o0 P),(183,o339 P),(184,o340 P),(185,o341 P),(186,o0 P),(187,o2 P),(188,o344 P),(189,o345 P),(190,o346 P),(191,o0 P),(192,o2 P),(193,o349 P),(194,o350 P),(195,o351 P),(196,o0 P),(197,o2 P),(198,o354 P),(199,o0 P),(200,o358 P),(201,o359 P),(202,o360 P),(203,o0 P),(204,o2 P),(205,o363 P),(206,o364 P),(207,o365 P),(208,o0 P),(209,o2 P),(210,o368 P),(211,o0 P),(212,o371 P),(213,o372 P),(214,o373 P),(215,o0 P),(216,o2 P),(217,o376 P),(218,o377 P),(219,o378 P),(220,o0 P),(221,o2 P),(222,o381 P),(223,o382 P),(224,o383 P),(225,o0 P),(226,o2 P),(227,o386 P),(228,o387 P),(229,o388 P),(230,o0 P),(231,o2 P),(232,o391 P),(233,o392 P),(234,o393 P),(235,o0 P),(236,o2 P),(237,o396 P),(238,o397 P),(239,o398 P),(240,o0 P),(241,o2 P),(242,o401 P),(243,o402 P),(244,o403 P),(245,o0 P),(246,o2 P),(247,o406 P),(248,o0 P),(249,o409 P),(250,o410 P),(251,o411 P),(252,o0 P),(253,o2 P),(254,o414 P),(255,o0 P),(256,o416 P),(257,o417 P),(258,o418 P),(259,o0 P),(260,o2 P),(261,o421 P),(262,o0 P),(263,o423 P),(264,o424 P),(265,o425 P),(266,o0 P),(267,o2 P),(268,o429 P),(269,o0 P),(270,o431 P),(271,o432 P),(272,o433 P),(273,o0 P),(274,o2 P),(275,o436 P),(276,o0 P),(277,o438 P),(278,o439 P),(279,o440 P),(280,o0 P),(281,o2 P),(282,o443 P),(283,o444 P),(284,o445 P),(285,o0 P),(286,o2 P),(287,o448 P),(288,o0 P),(289,o451 P),(290,o452 P),(291,o453 P),(292,o0 P),(293,o2 P),(294,o456 P),(295,o0 P),(296,o458 P),(297,o459 P),(298,o460 P),(299,o0 P),(300,o2 P),(301,o463 P),(302,o464 P),(303,o465 P),(304,o0 P),(305,o2 P),(306,o468 P),(307,o0 P),(308,o473 P),(309,o474 P),(310,o475 P),(311,o0 P),(312,o2 P),(313,o478 P),(314,o479 P),(315,o480 P),(316,o0 P),(317,o2 P),(318,o483 P),(319,o484 P),(320,o485 P),(321,o0 P),(322,o2 P),(323,o488 P),(324,o489 P),(325,o490 P),(326,o0 P),(327,o2 P),(328,o493 P),(329,o494 P),(330,o495 P),(331,o0 P),(332,o2 P),(333,o498 P),(334,o499 P),(335,o500 P),(336,o0 P),(337,o2 P),(338,o503 P),(339,o0 P),(340,o508 P),(341,o509 P),(342,o510 P),(343,o0 P),(344,o2 P),(345,o513 P),(346,o514 P),(347,o515 P),(348,o0 P),(349,o2 P),(350,o518 P),(351,o0 P),(352,o522 P),(353,o523 P),(354,o524 P),(355,o0 P),(356,o2 P),(357,o527 P),(358,o0 P),(359,o529 P),(360,o530 P),(361,o531 P),(362,o0 P),(363,o2 P),(364,o534 P),(365,o535 P),(366,o536 P),(367,o0 P),(368,o2 P),(369,o539 P),(370,o0 P),(371,o542 P),(372,o543 P),(373,o544 P),(374,o0 P),(375,o2 P),(376,o547 P),(377,o548 P),(378,o549 P),(379,o0 P),(380,o2 P),(381,o552 P),(382,o0 P),(383,o557 P),(384,o558 P),(385,o559 P),(386,o0 P),(387,o2 P),(388,o562 P),(389,o0 P),(390,o565 P),(391,o566 P),(392,o567 P),(393,o0 P),(394,o2 P),(395,o570 P),(396,o0 P),(397,o572 P),(398,o573 P),(399,o574 P),(400,o0 P),(401,o2 P),(402,o577 P),(403,o578 P),(404,o579 P)]
abbrev AS:List PySem.Addr:=List.range' 0 16 ++ [22,23,24,25,28,35,36,37,40,47,48,49] ++ List.range' 52 82 ++ List.range' 141 31 ++ List.range' 174 231
abbrev keep:List Nat:=[1,2,3,5,6,7,8,9,10,11,13,14,16,17,18,20,22,23,24,25,26,27,28,29,30,31,32,33,34,35,36,37,39,40,41,42,43,44,45,46,47,48,49,50,51,52,53,54,56,57,58,59,60,61,62,63,64]
abbrev loose:List PySem.Str:=[]
noncomputable abbrev sts0:List PySem.Stmt:=((behindTheImports TW).drop 0).take 65
abbrev pos0:PySem.Pos:=(PySem.Pos.mk 333 0 343 39)
theorem pre (w:World):(fun os=>topGo treeTable TW w m0 ann kA ⟨boot_heap w.params,Array.mk [],boot_drawn,boot_toks,os⟩ (topStub TW))=fun os=>some ((Sta w os).abs,⟨denote treeTable cE,cE,posA,Bs⟩):=by
 rw[PySem.W.Fast.te15667345088766844465,PySem.W.Fast.te14364793385576792824,PySem.W.Fast.te11892475500146522536]
 kernel_rfl
theorem blk (w:World):(fun os=>segRunT treeTable TW w m0 ann 1 (kB+1) (Sta w os) (blockOf (behindTheImports TW) env cE posA Bs))=fun os=>some (Flow.next,Stb w os,cE,posB):=by
 rw[PySem.W.Fast.te10110043849684766642,PySem.W.Fast.te14364793385576792824]
 kernel_rfl
theorem pc0 (w:World):(fun os=>segRunT treeTable TW w m0 ann 1 2524 (Stb w os) (piecesOf sts0 env cE posB Bs))=fun os=>some (Flow.next,St0 w os,cE,pos0):=by
 rw[PySem.W.Fast.te10110043849684766642,PySem.W.Fast.te14364793385576792824]
 kernel_rfl
theorem fin (w:World):(fun os=>topRun treeTable TW w m0 ann (kF+1) (St0 w os).abs ⟨doneF Flow.next,cE,pos0,Bs⟩)=fun os=>some (Stf w os).abs:=by
 rw[PySem.W.Fast.te14082659384304107361,PySem.W.Fast.te14364793385576792824]
 kernel_rfl
theorem cut:behindTheImports TW=sts0 ++ []:=by kernel_rfl
theorem rest (w:World)(os:OsState):topRun treeTable TW w m0 ann (2524+(kF+1)) (Stb w os).abs (restOf (behindTheImports TW) env cE posB Bs)=some (Stf w os).abs:=by
 have h:topRun treeTable TW w m0 ann (2524+(kF+1)) (Stb w os).abs (restOf (sts0 ++ []) env cE posB Bs)=some (Stf w os).abs:=piece_app (segRun_of (congrFun (pc0 w) os)) (piece_nil (congrFun (fin w) os))
 exact (congrArg (fun b=>topRun treeTable TW w m0 ann (2524+(kF+1)) (Stb w os).abs (restOf b env cE posB Bs)) cut).trans h
theorem run (w:World)(os:OsState):topRun treeTable TW w m0 ann (kA+(kB+1+(2524+(kF+1)))) ⟨boot_heap w.params,Array.mk [],boot_drawn,boot_toks,os⟩ (topStub TW)=some (Stf w os).abs:=go_top (congrFun (pre w) os) (piece_block (segRun_of (congrFun (blk w) os)) (rest w os))
theorem opn:opening TW=plainProg TW.main.scope.names:=by
 kernel_rfl
theorem fence (s:Shared):fenceModules? TW s=some s:=by
 try rw[PySem.W.Fast.te14289696077712309145]
 kernel_rfl
theorem size (w:World):((boot_heap w.params).isNs mainGlobals && (Array.mk []:Array GenState).size == 0,(boot_heap w.params).objs.size,(boot_heap w.params).nsMap mainGlobals "__annotations__")=(true,m0,ann):=by
 try rw[PySem.W.Fast.te8920871248978507458]
 kernel_rfl
noncomputable abbrev Q:PySem.Program:=view TW keep
noncomputable def Hf (P:Params):Heap:=absHeap (Tf P) 405 LF
noncomputable abbrev Xt (s:Shared):Bool:=xlAt Q [] s && recOk (RowW.records (OpenRow.toRowW (OpenLaw.row PySem.Challenge.rw_evenhub_k36_made_of_steps))) s
theorem lk0 (w:World)(os:OsState):(staticsOk (importedModules TW.main.body) (boot_heap w.params) (Hf w.params) && namesBound TW (Hf w.params) && gensDone ⟨Hf w.params,(Array.mk []),(PySem.Drawn.mk 0 0 0 0),737,os⟩ && laidKept (boot_heap w.params) (Hf w.params))=true:=by
 try rw[PySem.W.Fast.te5923862056798008813]
 try rw[PySem.W.Fast.te5160383126252970620]
 try rw[PySem.W.Fast.te3399658132070893891]
 try rw[PySem.W.Fast.te5991557255702980513]
 try rw[PySem.W.Fast.te10880121769531294198]
 try rw[PySem.W.Fast.te821141287760084731]
 try rw[PySem.W.Fast.te7409074990110511671]
 try rw[PySem.W.Fast.te13664370479719496447]
 try rw[PySem.W.Fast.te14722251495701143533]
 try rw[PySem.W.Fast.te10994771534591457954]
 try rw[PySem.W.Fast.te479339242167458305]
 try rw[PySem.W.Fast.te16090120013241838585]
 try rw[PySem.W.Fast.te3247288618530077131]
 try rw[PySem.W.Fast.te2386780881361962483]
 try rw[PySem.W.Fast.te11698064438423848299]
 try rw[PySem.W.Fast.te7317090234206586261]
 try rw[PySem.W.Fast.te7369524293546568484]
 kernel_rfl
theorem lk1 (w:World)(os:OsState):openSeen Q loose (importedModules TW.main.body) Xt true ⟨Hf w.params,(Array.mk []),(PySem.Drawn.mk 0 0 0 0),737,os⟩=openGood Q loose:=by
 unfold openSeen openGood
 refine looks_pair ?_ (looks_pair ?_ (looks_pair ?_ (looks_pair ?_ (looks_pair ?_ (looks_pair ?_ (looks_pair ?_ (looks_pair ?_ ?_))))))) <;> ((try rw[PySem.W.Fast.te5923862056798008813]);(try rw[PySem.W.Fast.te5160383126252970620]);(try rw[PySem.W.Fast.te3399658132070893891]);(try rw[PySem.W.Fast.te5991557255702980513]);(try rw[PySem.W.Fast.te10880121769531294198]);(try rw[PySem.W.Fast.te821141287760084731]);(try rw[PySem.W.Fast.te7409074990110511671]);(try rw[PySem.W.Fast.te13664370479719496447]);(try rw[PySem.W.Fast.te14722251495701143533]);(try rw[PySem.W.Fast.te10994771534591457954]);(try rw[PySem.W.Fast.te479339242167458305]);(try rw[PySem.W.Fast.te16090120013241838585]);(try rw[PySem.W.Fast.te3247288618530077131]);(try rw[PySem.W.Fast.te2386780881361962483]);(try rw[PySem.W.Fast.te11698064438423848299]);(try rw[PySem.W.Fast.te7317090234206586261]);(try rw[PySem.W.Fast.te7369524293546568484]);kernel_rfl)
theorem lk2 (w:World)(os:OsState):X.obsZ AS ⟨Hf w.params,(Array.mk []),(PySem.Drawn.mk 0 0 0 0),737,os⟩=X.valZ KF 405 737 w:=by kernel_rfl
theorem left:LeftO TW Q loose Xt (X.obsZ AS) (X.valZ KF 405 737) 5172 :=
 LeftO.of_pieces (H₀:=boot_heap) (H₁:=Hf) (gs₀:=Array.mk []) (gs₁:=(Array.mk [])) (d₀:=boot_drawn) (d₁:=(PySem.Drawn.mk 0 0 0 0)) (k₀:=boot_toks) (k₁:=737) (m₀:=m0) (ann:=ann) (M:=kA+(kB+1+(2524+(kF+1))))
  (boot_open opn (by decide +kernel) fence) size run (by decide +kernel) (fun w=>funext fun os=>looks_pair (lk0 w os) (looks_pair (lk1 w os) (lk2 w os)))
theorem zAm:LeftO PySem.Challenge.pw_evenhub_k36_made_of_steps (view PySem.Challenge.pw_evenhub_k36_made_of_steps keep) loose (fun s=>xlAt (view PySem.Challenge.pw_evenhub_k36_made_of_steps keep) [] s && recOk (RowW.records (OpenRow.toRowW (OpenLaw.row PySem.Challenge.rw_evenhub_k36_made_of_steps))) s) (X.obsZ AS) (X.valZ KF 405 737) 5172:=by
 rw[PySem.W.Fast.te472739759161405563]
 exact left
end Hd
theorem PySem.W.X.walkX_of {q:PySem.Program}{loose:List PySem.Str}{XP:(PySem.Str→Option PySem.Value)→PySem.Heap→Prop}{K:PySem.Params→PySem.W.Frag}{as:List PySem.Addr}{n t:Nat}{r:PySem.W.RowW}{d:PySem.DefRec}{kwd:List (PySem.Str×PySem.Expr)}{run:PySem.Value→List PySem.Value→PySem.Sem PySem.Value}
  (e:∀ P,as=(K P).map (·.1))(W:PySem.W.WalkO q loose XP (fun w h=>(K w.params).In h) r d kwd run):PySem.W.WalkX q loose XP (PySem.W.X.obsZ as) (PySem.W.X.valZ K n t) r d kwd run :=
 fun w s₀ s₁ mg mb G y a o pm cd doc dV kV ho hd hcd hD hmg hg args vals asx L hpre hlay hrd hwl hlo =>
  W w s₀ s₁ mg mb G (PySem.W.InK.keeps w _ _ (PySem.W.X.z_facts e y).2.1 L.keeps) a o pm cd doc dV kV ho hd hcd hD hmg hg args vals asx hpre hlay hrd hwl hlo
namespace Hd
open PySem PySem.W L2
variable {K:Frag}{x m q:Str}{st:Stmt}{C:Addr}
theorem fk (f:Addr)(pm cd:Value)(a:nsIn K mainGlobals x=some (some (.ref f)):=by kernel_rfl)(l:K.lookup f=some ⟨(.type l17),none,.func (fnOf x x (wA st) (vY st) (zJ st) .none .none .none pm none cd .none),⟨[]⟩⟩:=by kernel_rfl)(c:codeIn K cd x=true:=by kernel_rfl)(k:keepIn K (.ref f)=true:=by kernel_rfl):Fa K x st:=.of a l c k
theorem fm (f:Addr)(pm cd:Value)(a:findIn K (.ref C) m=some (some (.ref f)):=by kernel_rfl)(i:isFn K (.ref f)=true:=by kernel_rfl)(l:K.lookup f=some ⟨(.type l17),none,.func (fnOf m q (wA st) (vY st) (zJ st) .none .none .none pm none cd .none),⟨[]⟩⟩:=by kernel_rfl)(c:codeIn K cd q=true:=by kernel_rfl)(k:keepIn K (.ref f)=true:=by kernel_rfl):Fm K C m q st:=.of a i l c k
end Hd
open PySem PySem.W PySem.W.X PyProof.Rows Hd PwT in
set_option maxRecDepth 100000 in
set_option maxHeartbeats 0 in
theorem PySem.Challenge.cw_evenhub_k36_made_of_steps_holds : PySem.Challenge.rw_evenhub_k36_made_of_steps.Holds := by
 w_on;o_law
 refine holds_openX (q:=(view PySem.Challenge.pw_evenhub_k36_made_of_steps keep)) (loose:=loose) (Xt:=fun s=>xlAt (view PySem.Challenge.pw_evenhub_k36_made_of_steps keep) [] s && recOk (RowW.records (OpenRow.toRowW (OpenLaw.row PySem.Challenge.rw_evenhub_k36_made_of_steps))) s) (XP:=XL (view PySem.Challenge.pw_evenhub_k36_made_of_steps keep) []) (Yf:=X.obsZ AS) (Ya:=X.valZ KF 405 737) (N:=5172) zAm (fun s e=>xl_of s (Bool.and_eq_true_iff.mp e).1) XL.keeps (by rfl) (by rfl) (by rfl) (fun s e=>recFacts_of (Bool.and_eq_true_iff.mp e).2) (by rfl) (by first | assumption | decide +kernel) (by decide +kernel) ⟨rfl,rfl,rfl,rfl,rfl,by decide +kernel⟩ ?hw ?hc
 case hw=>w_witness2
 refine PySem.W.X.walkX_of (fun _=>by kernel_rfl) (K36.walk (l:=PySem.Challenge.rw_evenhub_k36_made_of_steps) rfl rfl (fun w h Y=>Y) ?F)
 intro w mg fa h KX G hmg
 refine' K36.all_mk (t_LEAD_BITS:=241) (t_FIRST_PRIME:=540) (C_Frame:=169) KX G hmg (fk 58 (.str p155 239) (.ref 57)) (fk 65 (.str p155 239) (.ref 64)) (fk 72 (.str p155 239) (.ref 71)) (fk 79 (.str p155 239) (.ref 78)) (fk 86 (.str p155 239) (.ref 85)) (fk 93 (.str p155 239) (.ref 92)) (fk 100 (.str p138 306) (.ref 99)) (fk 107 (.str p138 306) (.ref 106)) (fk 114 (.str p142 326) (.ref 113)) (fk 121 (.str p142 326) (.ref 120)) (fk 128 (.str p142 326) (.ref 127)) (fk 133 (.str p137 357) (.ref 132)) (fk 178 (.str jZ 365) (.ref 177)) (fk 185 (.str jZ 365) (.ref 184)) (fk 190 (.str jZ 365) (.ref 189)) (fk 195 (.str jZ 365) (.ref 194)) (fk 202 (.str jZ 365) (.ref 201)) (fk 207 (.str jZ 365) (.ref 206)) (fk 214 (.str jZ 365) (.ref 213)) (fk 219 (.str jZ 365) (.ref 218)) (fk 224 (.str jZ 365) (.ref 223)) (fk 229 (.str jZ 365) (.ref 228)) (fk 234 (.str jZ 365) (.ref 233)) (fk 239 (.str jZ 365) (.ref 238)) (fk 244 (.str jZ 365) (.ref 243)) (fk 251 (.str jZ 365) (.ref 250)) (fk 258 (.str jZ 365) (.ref 257)) (fk 265 (.str zBm 538) (.ref 264)) (fk 272 (.str zBm 538) (.ref 271)) (fk 279 (.str zBm 538) (.ref 278)) (fk 284 (.str zBm 538) (.ref 283)) (fk 291 (.str zBm 538) (.ref 290)) (fk 298 (.str zBm 538) (.ref 297)) (fk 303 (.str zBm 538) (.ref 302)) (fk 310 (.str zBm 538) (.ref 309)) (fk 315 (.str zBm 538) (.ref 314)) (fk 320 (.str zBm 538) (.ref 319)) (fk 325 (.str zBm 538) (.ref 324)) (fk 330 (.str zBm 538) (.ref 329)) (fk 335 (.str zBm 538) (.ref 334)) (fk 342 (.str zBm 538) (.ref 341)) (fk 347 (.str zBm 538) (.ref 346)) (fk 354 (.str p62 660) (.ref 353)) (fk 361 (.str p62 660) (.ref 360)) (fk 366 (.str p62 660) (.ref 365)) (fk 373 (.str p62 660) (.ref 372)) (fk 378 (.str p62 660) (.ref 377)) (fk 385 (.str p62 660) (.ref 384)) (fk 392 (.str p62 660) (.ref 391)) (fk 399 (.str p62 660) (.ref 398)) (fk 404 (.str p62 660) (.ref 403)) (aM0:=fm 145 (.str jZ 365) (.ref 144)) (aM1:=fm 152 (.str jZ 365) (.ref 151)) (aM2:=fm 159 (.str jZ 365) (.ref 158)) (aM3:=fm 166 (.str jZ 365) (.ref 165))
#print axioms PySem.Challenge.cw_evenhub_k36_made_of_steps_holds
