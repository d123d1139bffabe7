import PyProof.Rows.All
import Wide.All
import OpenK.AllK
import Wide.FinOn
import Lean
import PyProof.EqAt
import PyProof.EqKinds
import PyProof.TupleCall
import KE.KMinKey
import KE.KRevIter
import PySem.Challenge.RW_evenhub_k59_all_sides
set_option Elab.async false
set_option linter.all false
set_option maxRecDepth 100000
namespace L2
open PySem PySem.Spec PyProof.Rows
abbrev Key:=Sum Int Str
def keyIs:Key→Value→Bool
 | .inl k,v=>Value.isInt k v
 | .inr x,v=>Value.isStrOf x v
def keyH (w:World):Key→Int
 | .inl k=>hashInt k
 | .inr x=>hashStr w x
theorem vP:∀ {k:Key}{v:Value},keyIs k v=true→(∃ i t,k=Sum.inl i∧v=Value.int i t)∨(∃ x t,k=Sum.inr x∧v=Value.str x t)
 | .inl i,v,h=>by
  obtain⟨t,e⟩:=Value.isInt_shape (k:=i) (v:=v) h
  exact .inl ⟨i,t,rfl,e⟩
 | .inr x,v,h=>by
  obtain⟨t,e⟩:=Value.isStrOf_shape (x:=x) (v:=v) h
  exact .inr ⟨x,t,rfl,e⟩
theorem key_ll (a b:Int):decide ((Sum.inl a:Key)=Sum.inl b)=(a == b):=by
 by_cases e:a=b
 ·subst e;simp
 ·have h:¬ (Sum.inl a:Key)=Sum.inl b:=fun q=>e (Sum.inl.inj q)
  rw[decide_eq_false h]
  exact (beq_eq_false_iff_ne.mpr e).symm
theorem key_rr (a b:Str):decide ((Sum.inr a:Key)=Sum.inr b)=decide (a=b):=by
 by_cases e:a=b
 ·subst e;simp
 ·have h:¬ (Sum.inr a:Key)=Sum.inr b:=fun q=>e (Sum.inr.inj q)
  rw[decide_eq_false h,decide_eq_false e]
theorem key_lr (a:Int)(b:Str):decide ((Sum.inl a:Key)=Sum.inr b)=false:=decide_eq_false (fun q=>nomatch q)
theorem key_rl (a:Str)(b:Int):decide ((Sum.inr a:Key)=Sum.inl b)=false:=decide_eq_false (fun q=>nomatch q)
def mixKind (prog:Program)(w:World):PySem.KeyKind prog w Key where
 is:=keyIs
 hash:=keyH w
 inj:=fun v a b ha hb=>by
  rcases vP ha with ⟨i,t,rfl,rfl⟩ | ⟨x,t,rfl,rfl⟩
  ·rcases vP hb with ⟨j,u,rfl,e⟩ | ⟨y,u,rfl,e⟩
   ·injection e with e1 _;rw[e1]
   ·exact nomatch e
  ·rcases vP hb with ⟨j,u,rfl,e⟩ | ⟨y,u,rfl,e⟩
   ·exact nomatch e
   ·injection e with e1 _;rw[e1]
 byValue:=fun k v h=>by
  rcases vP h with ⟨i,t,rfl,rfl⟩ | ⟨x,t,rfl,rfl⟩ <;> rfl
 pyHash:=fun hv h=>by
  rcases vP hv with ⟨i,t,rfl,rfl⟩ | ⟨x,t,rfl,rfl⟩
  ·exact wpAny_pyHash_int h
  ·exact wpAny_pyHash_str h
 eqBool:=fun hu hv h=>by
  rcases vP hu with ⟨i,t,rfl,rfl⟩ | ⟨x,t,rfl,rfl⟩
  ·rcases vP hv with ⟨j,u,rfl,rfl⟩ | ⟨y,u,rfl,rfl⟩
   ·rw[key_ll] at h;exact wpAny_eqBool_int h
   ·rw[key_lr] at h;exact SeqAt.EqAt.int_str i t y u _ _ _ _ h
  ·rcases vP hv with ⟨j,u,rfl,rfl⟩ | ⟨y,u,rfl,rfl⟩
   ·rw[key_rl] at h;exact SeqAt.EqAt.str_int x t j u _ _ _ _ h
   ·rw[key_rr] at h;exact wpAny_eqBool_str h
 «strs»:=fun k x t v h=>by
  rcases vP h with ⟨i,u,rfl,e⟩ | ⟨y,u,rfl,e⟩
  ·exact nomatch e
  ·injection e with e1 _
   subst e1
   cases v <;> rfl
end L2
namespace L2
open PySem PySem.Spec PyProof.Rows
inductive V where
 | non | bl (b:Bool) | int (i:Int) | str (x:Str) | byt (b:Array UInt8) | flt (b:UInt64) | ref (a:Addr) | ty (n:String)
 deriving DecidableEq
def RelV:V→Value→Prop
 | .non,u=>u=Value.none
 | .bl b,u=>u=Value.bool b
 | .int i,u=>∃ t,u=Value.int i t
 | .str x,u=>∃ t,u=Value.str x t
 | .byt b,u=>∃ t,u=Value.bytes b t
 | .flt b,u=>∃ t,u=Value.float b t
 | .ref a,u=>u=Value.ref a
 | .ty n,u=>u=Value.type n
abbrev Vals:List V→List Value→Prop:=Paired RelV
theorem Vals.length {xs:List V}{us:List Value}(r:Vals xs us):xs.length=us.length:=Paired.length r
theorem Vals.get:∀ {xs:List V}{us:List Value}{i:Nat}{x:V},Vals xs us→xs[i]?=some x→∃ u,us[i]?=some u∧RelV x u
 | _,_,_,_,.nil,e=>by simp at e
 | _,_,0,_,.cons r _,e=>by simp at e;subst e;exact⟨_,rfl,r⟩
 | _,_,i+1,x,.cons _ t,e=>by
  obtain⟨u,h1,h2⟩:=Vals.get (i:=i) (x:=x) t (by simpa using e)
  exact⟨u,by simpa using h1,h2⟩
theorem Vals.set {x:V}{u:Value}(r:RelV x u):∀ {xs:List V}{us:List Value}(i:Nat),Vals xs us→Vals (xs.set i x) (us.set i u)
 | _,_,_,.nil=>.nil
 | _,_,0,.cons _ t=>.cons r t
 | _,_,i+1,.cons q t=>.cons q (Vals.set r i t)
theorem Vals.append:∀ {xs ys:List V}{us ws:List Value},Vals xs us→Vals ys ws→Vals (xs ++ ys) (us ++ ws)
 | _,_,_,_,.nil,s=>s
 | _,_,_,_,.cons r t,s=>.cons r (Vals.append t s)
theorem Vals.take:∀ {xs:List V}{us:List Value}(n:Nat),Vals xs us→Vals (xs.take n) (us.take n)
 | _,_,0,_=>.nil
 | _,_,_+1,.nil=>.nil
 | _,_,n+1,.cons r t=>.cons r (Vals.take n t)
theorem Vals.drop:∀ {xs:List V}{us:List Value}(n:Nat),Vals xs us→Vals (xs.drop n) (us.drop n)
 | _,_,0,r=>r
 | _,_,_+1,.nil=>.nil
 | _,_,n+1,.cons _ t=>Vals.drop n t
def RelO:Option V→Option Value→Prop
 | some v,some u=>RelV v u
 | none,none=>True
 | _,_=>False
def KV {κ:Type}:List (κ×V)→List (κ×Value)→Prop:=Paired fun (p:κ×V)(q:κ×Value)=>p.1=q.1∧RelV p.2 q.2
def kV:Key→V
 | .inl i=>.int i
 | .inr x=>.str x
inductive HO where
 /-- a list -/
 | lst (xs:List V)
 /-- a tuple (never changes) -/
 | tup (xs:List V)
 /-- a dict whose keys are ints and texts;one whose keys are tuples of ints and texts (the empty one is both) -/
 | dK (kvs:List (Key×V)) | dT (kvs:List (List Key×V))
 /-- a set of ints: its members,its size -/
 | set (S:Int→Bool)(n:Nat)
 /-- an instance of the class at C,its dict at dx,its attributes -/
 | ins (C dx:Addr)(fs:List (Str×V))
 /-- the dict of the instance at x -/
 | own (x:Addr)
 /-- the dict of an exception -/
 | xd (fs:List (Str×V))
 /-- a bound method,f of x -/
 | met (f x:Addr)
 /-- a range object lo,lo+1,.. below hi -/
 | rng (lo hi:Int)
 /-- a thing that is known to the object (the script;a dict while a loop walks it): read,never written while it is so -/
 | frz (o:Obj)(u:HO)
 /-- a code object's table -/
 | tbl (ps:Array Value)
 /-- any other thing,by what is true of its one object (a def of one's own: SetO a S n:=HO.ext fun h=>..) -/
 | ext (φ:Heap→Prop)
abbrev Hp:=Addr→Option HO
def upd (H:Hp)(a:Addr)(o:HO):Hp:=fun b=>if b=a then some o else H b
theorem zH {H:Hp}{a:Addr}{o:HO}:upd H a o a=some o:=by unfold upd;rw[if_pos rfl]
theorem zK {H:Hp}{a b:Addr}{o:HO}(h:b≠a):upd H a o b=H b:=by unfold upd;rw[if_neg h]
theorem zEs {H:Hp}{a b:Addr}{o u:HO}(h:H a=some o)(h':H b=some u)(d:o≠u):a≠b:=by
 intro e;subst e;rw[h] at h';exact d (Option.some.inj h')
theorem zJ {H:Hp}{a b:Addr}{o:HO}(h:H a=some o)(h':H b=none):a≠b:=by
 intro e;subst e;rw[h] at h';cases h'
section
variable (P:Program)(w:World)
def vY (H:Hp)(h:Heap)(a:Addr):HO→Prop
 | .lst xs=>xs.length≤sizeLine∧∃ (its:List Value)(n:Nat),Vals xs its∧h.get? a=some { cls:=.type "list",data:=.seq its.toArray n }
 | .tup xs=>xs.length≤sizeLine∧∃ its:List Value,Vals xs its∧IsTup h a its.toArray
 | .dK kvs=>kvs.length≤sizeLine∧(a == sysModules)=false∧∃ vs,KV kvs vs∧h.DictOf (mixKind P w) a vs
 | .dT kvs=>kvs.length≤sizeLine∧(a == sysModules)=false∧∃ xs:List (List Key×Addr×Value),
   Paired (fun (p:List Key×V)(q:List Key×Addr×Value)=>p.1=q.1∧H q.2.1=some (.tup (p.1.map kV))∧RelV p.2 q.2.2) kvs xs ∧
   ∃ o es ep,h.get? a=some o∧o.ExactDict∧o.data=.dict es ep∧es.toList=xs.map (entryOfKey (tupleKind (mixKind P w)))∧(xs.map (·.1)).Nodup
 | .set S n=>h.SetOf (intKind P w) a S n
 | .ins C dx fs=>H dx=some (.own a)∧fs.length≤1000∧dx≠a∧h.get? a=some (PySem.W.instObj C dx) ∧
   ∃ mA,h.Ns1 dx mA∧(∀ f,RelO (fs.lookup f) (mA f))∧PySem.Within mA (fs.map (·.1))
 | .own _=>∃ o,h.get? a=some o
 | .xd fs=>∃ mA,h.Ns1 a mA∧∀ f,RelO (fs.lookup f) (mA f)
 | .rng lo hi=>∃ t u v,h.get? a=some { cls:=.type "range",data:=.fields #[.int lo t,.int hi u,.int 1 v] }
 | .frz o u=>h.get? a=some o∧vY H h a u
 | .tbl ps=>h.get? a=some { cls:=.none,data:=.fields ps }
 | .met f x=>h.get? a=some (PySem.W.methodObj (.ref f) (.ref x))
 | .ext φ=>φ h∧(∃ o,h.get? a=some o)∧∀ h1 h2:Heap,φ h1→(∀ o,h1.get? a=some o→h2.get? a=some o)→φ h2
def HOk (H:Hp)(h:Heap):Prop:=∀ a o,H a=some o→vY P w H h a o
end
section
variable {P:Program}{w:World}{H H':Hp}{h h':Heap}{a:Addr}{o:HO}
theorem vY.lt (x:vY P w H h a o):a < h.objs.size:=by
 cases o with
 | lst xs=>obtain⟨_,_,_,_,e⟩:=x;exact Heap.lt_size e
 | tup xs=>obtain⟨_,_,_,p⟩:=x;exact p.lt
 | dK kvs=>obtain⟨_,_,_,_,o,_,_,e,_⟩:=x;exact Heap.lt_size e
 | dT kvs=>obtain⟨_,_,_,_,o,_,_,e,_⟩:=x;exact Heap.lt_size e
 | set S n=>obtain⟨o,_,_,_,e,_⟩:=x;exact Heap.lt_size e
 | ins C dx fs=>obtain⟨_,_,_,e,_⟩:=x;exact Heap.lt_size e
 | own y=>obtain⟨_,e⟩:=x;exact Heap.lt_size e
 | xd fs=>obtain⟨_,⟨_,_,_,e,_⟩,_⟩:=x;exact Heap.lt_size e
 | rng lo hi=>obtain⟨_,_,_,e⟩:=x;exact Heap.lt_size e
 | frz ob u=>obtain⟨e,_⟩:=x;exact Heap.lt_size e
 | tbl ps=>exact Heap.lt_size (show h.get? a=some _ from x)
 | met f y=>exact Heap.lt_size (show h.get? a=some _ from x)
 | ext φ=>obtain⟨_,⟨_,e⟩,_⟩:=x;exact Heap.lt_size e
theorem Paired.mapP {α β:Type}{F G:α→β→Prop}:∀ {l₁:List α}{l₂:List β},Paired F l₁ l₂→(∀ a b,F a b→G a b)→Paired G l₁ l₂
 | _,_,.nil,_=>.nil
 | _,_,.cons r t,f=>.cons (f _ _ r) (Paired.mapP t f)
theorem vY.stay (x:vY P w H h a o)(k:∀ b u,(b=a∨H b=some (.own a))→h.get? b=some u→h'.get? b=some u)
  (ho:∀ b,H b=some (.own a)→H' b=some (.own a))(ht:∀ b xs,H b=some (.tup xs)→H' b=some (.tup xs)):vY P w H' h' a o:=by
 induction o with
 | lst xs=>obtain⟨z,its,n,r,e⟩:=x;exact⟨z,its,n,r,k _ _ (.inl rfl) e⟩
 | tup xs=>obtain⟨z,its,r,ob,e,c⟩:=x;exact⟨z,its,r,ob,k _ _ (.inl rfl) e,c⟩
 | dK kvs=>obtain⟨z,y,vs,r,ob,es,ep,e,c⟩:=x;exact⟨z,y,vs,r,ob,es,ep,k _ _ (.inl rfl) e,c⟩
 | dT kvs =>
  obtain⟨z,y,xs,r,ob,es,ep,e,c⟩:=x
  exact⟨z,y,xs,Paired.mapP r fun p q z=>⟨z.1,ht _ _ z.2.1,z.2.2⟩,ob,es,ep,k _ _ (.inl rfl) e,c⟩
 | set S n=>obtain⟨ob,es,ep,t,e,c⟩:=x;exact⟨ob,es,ep,t,k _ _ (.inl rfl) e,c⟩
 | ins C dx fs =>
  obtain⟨d,z,ne,e,mA,⟨od,es,ep,e2,c⟩,r⟩:=x
  exact⟨ho _ d,z,ne,k _ _ (.inl rfl) e,mA,⟨od,es,ep,k _ _ (.inr d) e2,c⟩,r⟩
 | own y=>obtain⟨ob,e⟩:=x;exact⟨ob,k _ _ (.inl rfl) e⟩
 | xd fs=>obtain⟨mA,⟨od,es,ep,e,c⟩,r⟩:=x;exact⟨mA,⟨od,es,ep,k _ _ (.inl rfl) e,c⟩,r⟩
 | rng lo hi=>obtain⟨t,u,v,e⟩:=x;exact⟨t,u,v,k _ _ (.inl rfl) e⟩
 | frz ob u ih=>obtain⟨e,q⟩:=x;exact⟨k _ _ (.inl rfl) e,ih q⟩
 | tbl ps =>
  have e:h.get? a=some { cls:=.none,data:=.fields ps }:=x
  show h'.get? a=some { cls:=.none,data:=.fields ps }
  exact k a _ (.inl rfl) e
 | met f y =>
  have e:h.get? a=some (PySem.W.methodObj (.ref f) (.ref y)):=x
  show h'.get? a=some (PySem.W.methodObj (.ref f) (.ref y))
  exact k a _ (.inl rfl) e
 | ext φ=>obtain⟨p,⟨o,e⟩,st⟩:=x;exact⟨st _ _ p fun o q=>k _ _ (.inl rfl) q,⟨o,k _ _ (.inl rfl) e⟩,st⟩
theorem HOk.lt (x:HOk P w H h)(e:H a=some o):a < h.objs.size:=(x a o e).lt
theorem HOk.fresh (x:HOk P w H h)(e:h.objs.size≤a):H a=none:=by
 cases q:H a with
 | none=>rfl
 | some u=>exact absurd (Nat.lt_of_lt_of_le (x.lt q) e) (Nat.lt_irrefl _)
theorem HOk.kept (x:HOk P w H h)(k:∀ b u,h.get? b=some u→h'.get? b=some u):HOk P w H h':=fun a o e =>
 (x a o e).stay (fun b u _ q=>k b u q) (fun _ q=>q) fun _ _ q=>q
theorem HOk.laid (x:HOk P w H h)(k:∀ b u,h.get? b=some u→h'.get? b=some u)(hp:h.objs.size≤a)(new:vY P w (upd H a o) h' a o):HOk P w (upd H a o) h':=fun b u e=>by
 have hn:=x.fresh hp
 by_cases hb:b=a
 ·subst hb;rw[zH] at e;cases e;exact new
 ·rw[zK hb] at e
  exact (x b u e).stay (fun c v _ q=>k c v q) (fun c q=>by rw[zK (zJ q hn)];exact q) fun c xs q=>by rw[zK (zJ q hn)];exact q
end
def Rd (H:Hp)(a:Addr)(u:HO):Prop:=H a=some u∨∃ o,H a=some (.frz o u)
theorem Rd.of {H:Hp}{a:Addr}{u:HO}(h:H a=some u):Rd H a u:=.inl h
theorem Rd.ok {P:Program}{w:World}{H:Hp}{h:Heap}{a:Addr}{u:HO}(r:Rd H a u)(x:HOk P w H h):vY P w H h a u:=by
 rcases r with r | ⟨o,r⟩
 ·exact x a u r
 ·obtain⟨_,q⟩:=x a _ r
  exact q
def Mut:Option HO→Prop
 | some (.lst _)=>True
 | some (.dK _)=>True
 | some (.dT _)=>True
 | some (.set _ _)=>True
 | some (.ins _ _ _)=>True
 | some (.ext _)=>True
 | _=>False
section
variable {P:Program}{w:World}{H:Hp}{h h':Heap}{x e:Addr}{o':HO}
theorem HOk.write (ok:HOk P w H h)(mu:Mut (H x))(he:e=x∨H e=some (.own x))(k:∀ b u,b≠e→h.get? b=some u→h'.get? b=some u)(heo:∃ u,h'.get? e=some u)
  (new:vY P w (upd H x o') h' x o'):HOk P w (upd H x o') h':=fun b u q=>by
 have nown:∀ c y,H c=some (.own y)→c≠x:=fun c y r z=>by subst z;rw[r] at mu;exact mu
 have ntup:∀ c xs,H c=some (.tup xs)→c≠x:=fun c xs r z=>by subst z;rw[r] at mu;exact mu
 by_cases hb:b=x
 ·subst hb;rw[zH] at q;cases q;exact new
 ·rw[zK hb] at q
  by_cases hbe:b=e
  ·have q':H b=some (.own x):=by
    rcases he with z | z
    ·exact absurd (hbe.trans z) hb
    ·rw[hbe];exact z
   rw[q] at q';cases q'
   obtain⟨v,hv⟩:=heo
   exact⟨v,by rw[hbe];exact hv⟩
  ·refine (ok b u q).stay (fun c v hc r=>k c v ?_ r) (fun c r=>by rw[zK (nown c b r)];exact r) fun c xs r=>by rw[zK (ntup c xs r)];exact r
   rcases hc with rfl | hc
   ·exact hbe
   ·rintro rfl
    rcases he with z | z
    ·exact nown c b hc z
    ·rw[hc] at z;cases z;exact hb rfl
end
structure Un (fs ex:List Addr)(H H':Hp)(h h':Heap):Prop where
 keep:∀ b o,h.get? b=some o→H b=none→b∉fs→b∉ex→h'.get? b=some o
 slot:∀ b o,h.get? b=some o→H b=none→b∈fs→b∉ex→∃ sl,h'.get? b=some { o with slots:=sl }
 free:∀ b o,h.get? b=some o→H b=none→b∉ex→H' b=none
 there:∀ b o,h.get? b=some o→b∉ex→∃ o',h'.get? b=some o'
 tups:∀ b xs,H b=some (.tup xs)→H' b=some (.tup xs)
 frzs:∀ b o u,H b=some (.frz o u)→H' b=some (.frz o u)
 tbls:∀ b ps,H b=some (.tbl ps)→∃ more,H' b=some (.tbl (ps ++ more))
section
variable {fs fs' ex ex':List Addr}{H H1 H2:Hp}{h h1 h2 h':Heap}{a x e:Addr}{o:HO}
theorem Un.any (u:Un fs ex H H1 h h1){b:Addr}{ob:Obj}(q:h.get? b=some ob)(n:H b=none)(hx:b∉ex):∃ sl,h1.get? b=some { ob with slots:=sl }:=by
 by_cases hb:b∈fs
 ·exact u.slot b ob q n hb hx
 ·exact⟨ob.slots,u.keep b ob q n hb hx⟩
theorem Un.trans (a:Un fs ex H H1 h h1)(b:Un fs ex H1 H2 h1 h2):Un fs ex H H2 h h2 where
 keep:=fun c ob q n hc hx=>b.keep c ob (a.keep c ob q n hc hx) (a.free c ob q n hx) hc hx
 slot:=fun c ob q n hc hx=>by
  obtain⟨sl,e1⟩:=a.slot c ob q n hc hx
  obtain⟨sl',e2⟩:=b.slot c _ e1 (a.free c ob q n hx) hc hx
  exact⟨sl',e2⟩
 free:=fun c ob q n hx=>by
  obtain⟨o',e1⟩:=a.there c ob q hx
  exact b.free c o' e1 (a.free c ob q n hx) hx
 there:=fun c ob q hx=>by
  obtain⟨o',e1⟩:=a.there c ob q hx
  exact b.there c o' e1 hx
 tups:=fun c xs q=>b.tups c xs (a.tups c xs q)
 frzs:=fun c ob xs q=>b.frzs c ob xs (a.frzs c ob xs q)
 tbls:=fun c ps q=>by
  obtain⟨m1,e1⟩:=a.tbls c ps q
  obtain⟨m2,e2⟩:=b.tbls c _ e1
  exact⟨m1 ++ m2,by rw[e2,Array.append_assoc]⟩
theorem Un.kept (k:∀ b u,h.get? b=some u→h'.get? b=some u):Un fs ex H H h h' :=
 ⟨fun b ob q _ _ _=>k b ob q,fun b ob q _ _ _=>⟨ob.slots,k b ob q⟩,fun _ _ _ n _=>n,fun b ob q _=>⟨ob,k b ob q⟩,fun _ _ q=>q,fun _ _ _ q=>q,fun _ ps q=>⟨#[],by rw[q];simp⟩⟩
theorem Un.refl:Un fs ex H H h h:=Un.kept fun _ _ q=>q
theorem Un.laid (k:∀ b u,h.get? b=some u→h'.get? b=some u)(hp:h.objs.size≤a)(hn:H a=none):Un fs ex H (upd H a o) h h' where
 keep:=fun b u q _ _ _=>k b u q
 slot:=fun b u q _ _ _=>⟨u.slots,k b u q⟩
 free:=fun b u q n _=>by rw[zK (Nat.ne_of_lt (Nat.lt_of_lt_of_le (Heap.lt_size q) hp))];exact n
 there:=fun b u q _=>⟨u,k b u q⟩
 tups:=fun b xs q=>by rw[zK (zJ q hn)];exact q
 frzs:=fun b u xs q=>by rw[zK (zJ q hn)];exact q
 tbls:=fun b ps q=>⟨#[],by rw[zK (zJ q hn),q];simp⟩
theorem Un.write (mu:Mut (H x))(he:e=x∨H e=some (.own x))(k:∀ b u,b≠e→h.get? b=some u→h'.get? b=some u)(heo:∃ u,h'.get? e=some u):Un fs ex H (upd H x o) h h':=by
 have hx:∀ b,H b=none→b≠x:=fun b n z=>by subst z;rw[n] at mu;exact mu
 have hb:∀ b,H b=none→b≠e:=fun b n z=>by
  subst z
  rcases he with r | r
  ·exact hx b n r
  ·rw[n] at r;cases r
 have hm:∀ b u,H b=some u→¬ Mut (some u)→b≠x:=fun b u q nm z=>by subst z;rw[q] at mu;exact nm mu
 refine⟨fun b u q n _ _=>k b u (hb b n) q,fun b u q n _ _=>⟨u.slots,k b u (hb b n) q⟩,fun b u q n _=>by rw[zK (hx b n)];exact n,fun b u q _=>?_,
  fun b xs q=>by rw[zK (hm b _ q fun z=>z)];exact q,fun b u xs q=>by rw[zK (hm b _ q fun z=>z)];exact q,fun b ps q=>⟨#[],by rw[zK (hm b _ q fun z=>z),q];simp⟩⟩
 by_cases hbe:b=e
 ·subst hbe;exact heo
 ·exact⟨u,k b u hbe q⟩
theorem Un.mono (u:Un fs ex H H1 h h1)(hs:∀ b∈fs,b∈fs')(hx:∀ b∈ex,b∈ex'):Un fs' ex' H H1 h h1 :=
 ⟨fun b ob q n hb he=>u.keep b ob q n (fun z=>hb (hs b z)) fun z=>he (hx b z),fun _ _ q n _ he=>u.any q n fun z=>he (hx _ z),fun b ob q n he=>u.free b ob q n fun z=>he (hx b z),fun b ob q he=>u.there b ob q fun z=>he (hx b z),u.tups,u.frzs,u.tbls⟩
end
def trk (h:Heap)(H:Hp):List Addr:=(List.range h.objs.size).filter fun a=>(H a).isSome
def hidT (h:Heap)(H:Hp):Heap:=PySem.W.hideAll h (trk h H)
theorem hidT_size (h:Heap)(H:Hp):(hidT h H).objs.size=h.objs.size:=PySem.W.hideAll_size _ _
theorem hidT_get {h:Heap}{H:Hp}{b:Addr}{o:Obj}(e:h.get? b=some o)(n:H b=none):(hidT h H).get? b=some o :=
 PySem.W.hideAll_get _ e fun hm=>by
  have q:(H b).isSome=true:=(List.mem_filter.mp hm).2
  rw[n] at q;simp at q
theorem of_hidT {h:Heap}{H:Hp}{b:Addr}{o:Obj}(e:(hidT h H).get? b=some o):h.get? b=some o∧H b=none:=by
 have e':h.get? b=some o:=PySem.W.of_hideAll (trk h H) e
 refine⟨e',?_⟩
 cases q:H b with
 | none=>rfl
 | some x =>
  have hm:b∈trk h H:=List.mem_filter.mpr ⟨List.mem_range.mpr (Heap.lt_size e'),by simp [q]⟩
  have z:(hidT h H).get? b=none:=PySem.W.hideAll_none (trk h H) hm
  rw[z] at e;cases e
def allNews (g h:Heap)(L:Addr):List (Addr×Obj):=(List.range h.objs.size).filterMap fun a=>if a=L∨(g.get? a).isSome=true then none else (h.get? a).map fun o=>(a,o)
def rest (g h:Heap)(L d:Addr):List (Addr×Obj):=(allNews g h L).filter fun p=>decide (p.1≠d)
end L2
namespace L2
open PySem PySem.Spec PyProof.Rows
structure Mod (K:PySem.W.Frag)(mg:Str→Option Value)(base:Heap):Prop where
 kin:K.In base
 glob:base.Ns mainGlobals mg
 blt:∃ mb,base.Ns builtinsNs mb∧∀ x:Str,x≠"__name__"→mb x=bootBuiltins x
 nolimit:base.NoLimit
structure Cx where
 prog:Program
 w:World
 K:PySem.W.Frag
 mg:Str→Option Value
 base:Heap
 A:Around
 N:List Str
 s₀:Shared
 H₀:Hp
 env:Env
 outer:List Env
 stack:List Env
 ex:List Addr
 fn:Str→Bool
 calm:Bool
 pn:List (Addr×Obj)
 xe:Value→Shared→Prop
def frs (l:List Env):List Addr:=l.filterMap (·.frame)
abbrev Cx.fs (X:Cx):List Addr:=frs X.outer
def Vis (sc:Scope)(x:Str):Prop:=sc.names.lookup x=some .local∨sc.names.lookup x=some .cell∨sc.names.lookup x=some .free
def Loc (sc:Scope)(x:Str):Prop:=sc.names.lookup x=some .local∨sc.names.lookup x=some .cell
def Look (env:Env)(h:Heap)(m:Str→Option Value)(x:Str)(u:Value):Prop :=
 (env.kindOf x=some .local∧m x=some u)∨((env.kindOf x=some .cell∨env.kindOf x=some .free)∧∃ c,env.cells.lookup x=some c∧h.IsCell c (some u))
structure Cx.Ok (X:Cx):Prop where
 mod:Mod X.K X.mg X.base
 kind:X.env.scope.kind=.function
 glob:X.env.globals=mainGlobals
 blt:X.env.builtins=builtinsNs
 above:X.s₀.heap.objs.size≤X.env.locals
 inj:∀ x y c,X.env.cells.lookup x=some c→X.env.cells.lookup y=some c→x=y
 has:∀ x,(X.env.kindOf x=some .cell∨X.env.kindOf x=some .free)→∃ c,X.env.cells.lookup x=some c
 cab:∀ x c,X.fn x=true→X.env.cells.lookup x=some c→X.s₀.heap.objs.size≤c
 hd:X.calm=true→X.A.handled=none
 frames:X.A.frames=some X.stack
 stk:X.stack=X.outer∨(X.stack=X.env::X.outer∧X.env.frame=some X.env.locals)
 exf:∀ b∈X.ex,b≠X.env.locals∧∀ x c,X.env.cells.lookup x=some c→c≠b
 bs:∀ b o,X.base.get? b=some o→X.s₀.heap.get? b=some o∧X.H₀ b=none
 bsz:X.base.objs.size≤X.s₀.heap.objs.size
 noex:∀ b o,X.base.get? b=some o→b∉X.ex
 exfs:∀ b∈X.ex,b∉X.fs
 funs:X.s₀.heap.FunFrames X.base X.outer
 frf:∀ b∈X.fs,X.H₀ b=none
structure Inv (X:Cx)(pins:List (Addr×Obj))(σ:List (Option V))(H:Hp)(s:Shared):Prop where
 ok:X.Ok
 os:s.os=X.s₀.os
 bare:AllBare s.gens
 base:Un X.fs X.ex X.H₀ H X.s₀.heap s.heap
 loc:∃ m,s.heap.Ns X.env.locals m∧∀ (i:Nat)(x:Str)(v:V),X.N[i]?=some x→σ[i]?=some (some v)→Vis X.env.scope x→∃ u,RelV v u∧Look X.env s.heap m x u
 cell:∀ x c,X.env.cells.lookup x=some c→∃ v,s.heap.IsCell c v
 free:H X.env.locals=none
 freeC:∀ x c,X.env.cells.lookup x=some c→H c=none
 pin:∀ p∈X.pn ++ pins,s.heap.get? p.1=some p.2∧H p.1=none∧p.1≠X.env.locals∧p.1∉X.fs∧∀ v,p.2.data≠.cell v
 hok:HOk X.prog X.w H s.heap
 len:σ.length=X.N.length
section
variable {X:Cx}{pins:List (Addr×Obj)}{σ:List (Option V)}{H H':Hp}{s:Shared}{h':Heap}
theorem Cx.Ok.nofr (ok:X.Ok){b:Addr}{o:Obj}(e:X.base.get? b=some o):b∉X.fs:=fun hb=>by
 have:=(ok.funs.mem hb).1
 rw[e] at this;cases this
theorem Inv.bs (I:Inv X pins σ H s):∀ b o,X.base.get? b=some o→s.heap.get? b=some o∧H b=none:=fun b o e =>
 ⟨I.base.keep b o (I.ok.bs b o e).1 (I.ok.bs b o e).2 (I.ok.nofr e) (I.ok.noex b o e),I.base.free b o (I.ok.bs b o e).1 (I.ok.bs b o e).2 (I.ok.noex b o e)⟩
theorem Inv.bk (I:Inv X pins σ H s):∀ b o,X.base.get? b=some o→s.heap.get? b=some o:=fun b o e=>(I.bs b o e).1
theorem Inv.mod (I:Inv X pins σ H s):Mod X.K X.mg X.base:=I.ok.mod
theorem Inv.kIn (I:Inv X pins σ H s):X.K.In s.heap:=I.ok.mod.kin.keeps I.bk
theorem Inv.nolimit (I:Inv X pins σ H s):s.heap.NoLimit:=I.ok.mod.nolimit.keeps I.bk
theorem Inv.fr (I:Inv X pins σ H s):∃ m,Fr X.base X.env.locals s.heap m :=
 let ⟨m,hn,_⟩:=I.loc
 ⟨m,hn,I.bk,Nat.le_trans I.ok.bsz I.ok.above⟩
theorem Inv.lt (I:Inv X pins σ H s):X.env.locals < s.heap.objs.size:=let ⟨_,hn,_⟩:=I.loc;hn.lt
theorem Inv.sz (I:Inv X pins σ H s):X.s₀.heap.objs.size≤s.heap.objs.size:=Nat.le_trans I.ok.above (Nat.le_of_lt I.lt)
theorem Inv.nofs (I:Inv X pins σ H s){a:Addr}(h:s.heap.objs.size≤a):a∉X.fs:=fun hb=>by
 obtain⟨_,o,ho,_⟩:=I.ok.funs.mem hb
 exact absurd (Nat.lt_of_lt_of_le (Heap.lt_size ho) (Nat.le_trans I.sz h)) (Nat.lt_irrefl _)
theorem Inv.cne (I:Inv X pins σ H s):∀ x c,X.env.cells.lookup x=some c→c≠X.env.locals:=fun x c e z=>by
 obtain⟨v,o,ho,hd⟩:=I.cell x c e
 obtain⟨m,⟨o',es,ep,ho',hd',_⟩,_⟩:=I.loc
 rw[z,ho'] at ho;cases ho;rw[hd'] at hd;cases hd
theorem Inv.funs (I:Inv X pins σ H s):s.heap.FunFrames X.base X.outer:=by
 have all:∀ (l:List Env),(∀ b∈frs l,b∈X.fs)→X.s₀.heap.FunFrames X.base l→s.heap.FunFrames X.base l:=by
  intro l
  induction l with
  | nil=>intro _ _;trivial
  | cons env r ih =>
   intro hs hl
   obtain⟨hk,⟨L,o,hf,hn,ho,hd⟩,hr⟩:=hl
   have hL:L∈X.fs:=hs L (by unfold frs;rw[List.filterMap_cons,hf];exact List.mem_cons_self)
   obtain⟨sl,e⟩:=I.base.slot L o ho (I.ok.frf L hL) hL fun z=>I.ok.exfs L z hL
   exact⟨hk,⟨L,_,hf,hn,e,hd⟩,ih (fun b hb=>hs b (by unfold frs;rw[List.filterMap_cons,hf];exact List.mem_cons_of_mem _ hb)) hr⟩
 exact all X.outer (fun _ hb=>hb) I.ok.funs
theorem Inv.stack (I:Inv X pins σ H s):s.heap.FunFrames X.base X.stack:=by
 rcases I.ok.stk with e | ⟨e,hf⟩
 ·rw[e];exact I.funs
 ·rw[e]
  obtain⟨m,hn,_⟩:=I.loc
  refine .cons (by rw[I.ok.kind];decide) hf hn ?_ I.funs
  exact Heap.get?_none_of_le (Nat.le_trans I.ok.bsz I.ok.above)
theorem Inv.zFk (I:Inv X pins σ H s):∀ b∈frs X.stack,b∈X.env.locals::X.fs:=fun b hb=>by
 rcases I.ok.stk with e | ⟨e,hf⟩
 ·rw[e] at hb;exact List.mem_cons_of_mem _ hb
 ·rw[e] at hb
  unfold frs at hb
  rw[List.filterMap_cons,hf] at hb
  exact hb
theorem Inv.stkFree (I:Inv X pins σ H s):∀ b∈frs X.stack,H b=none:=fun b hb=>by
 rcases List.mem_cons.mp (I.zFk b hb) with e | hb
 ·rw[e];exact I.free
 ·obtain⟨_,o,ho,_⟩:=I.ok.funs.mem hb
  exact I.base.free b o ho (I.ok.frf b hb) fun z=>I.ok.exfs b z hb
theorem Inv.step {g':Array GenState}{t':Nat}{d':Drawn}{ch:List Addr}(I:Inv X pins σ H s)
  (hch:∀ b∈ch,(b∈X.ex∨X.s₀.heap.objs.size≤b)∧b≠X.env.locals∧(∀ x c,X.env.cells.lookup x=some c→c≠b)∧∀ p∈X.pn ++ pins,p.1≠b)
  (keep:∀ b o,b≠X.env.locals→b∉X.fs→b∉ch→s.heap.get? b=some o→H b=none→h'.get? b=some o)
  (slot:∀ b o,b≠X.env.locals→b∈X.fs→b∉ch→s.heap.get? b=some o→H b=none→∃ sl,h'.get? b=some { o with slots:=sl })(free:∀ b o,b∉ch→s.heap.get? b=some o→H b=none→H' b=none)
  (there:∀ b o,b∉ch→s.heap.get? b=some o→∃ o',h'.get? b=some o')
  (tups:∀ b xs,H b=some (.tup xs)→H' b=some (.tup xs))(frzs:∀ b o u,H b=some (.frz o u)→H' b=some (.frz o u))(tbls:∀ b ps,H b=some (.tbl ps)→∃ more,H' b=some (.tbl (ps ++ more)))
  (ns:∀ m,s.heap.Ns X.env.locals m→h'.Ns X.env.locals m)(hok:HOk X.prog X.w H' h')(hg:AllBare g') :
  Inv X pins σ H' { s with heap:=h',gens:=g',drawn:=d',toks:=t' }:=by
 have neL:∀ b o,X.s₀.heap.get? b=some o→b≠X.env.locals:=fun b o e=>Nat.ne_of_lt (Nat.lt_of_lt_of_le (Heap.lt_size e) I.ok.above)
 have neC:∀ b o,X.s₀.heap.get? b=some o→b∉X.ex→b∉ch:=fun b o e hx hb=>by
  rcases (hch b hb).1 with z | z
  ·exact hx z
  ·exact absurd (Nat.lt_of_lt_of_le (Heap.lt_size e) z) (Nat.lt_irrefl _)
 have cellK:∀ x c,X.env.cells.lookup x=some c→∀ v,s.heap.IsCell c v→h'.IsCell c v:=fun x c e v ⟨o,ho,hd⟩=>by
  have nch:c∉ch:=fun z=>(hch c z).2.2.1 x c e rfl
  by_cases hc:c∈X.fs
  ·obtain⟨sl,q⟩:=slot c o (I.cne x c e) hc nch ho (I.freeC x c e)
   exact⟨_,q,hd⟩
  ·exact⟨o,keep c o (I.cne x c e) hc nch ho (I.freeC x c e),hd⟩
 refine⟨I.ok,I.os,hg,⟨fun b o e n hb hx=>?_,fun b o e n hb hx=>?_,fun b o e n hx=>?_,fun b o e hx=>?_,fun b xs e=>tups b xs (I.base.tups b xs e),fun b o xs e=>frzs b o xs (I.base.frzs b o xs e),fun b ps e=>?_⟩,?_,fun x c e=>?_,?_,fun x c e=>?_,fun p hp=>?_,hok,I.len⟩
 ·exact keep b o (neL b o e) hb (neC b o e hx) (I.base.keep b o e n hb hx) (I.base.free b o e n hx)
 ·obtain⟨sl,e1⟩:=I.base.slot b o e n hb hx
  obtain⟨sl',e2⟩:=slot b _ (neL b o e) hb (neC b o e hx) e1 (I.base.free b o e n hx)
  exact⟨sl',e2⟩
 ·obtain⟨o',e1⟩:=I.base.there b o e hx
  exact free b o' (neC b o e hx) e1 (I.base.free b o e n hx)
 ·obtain⟨o',e1⟩:=I.base.there b o e hx
  exact there b o' (neC b o e hx) e1
 ·obtain⟨m1,e1⟩:=I.base.tbls b ps e
  obtain⟨m2,e2⟩:=tbls b _ e1
  exact⟨m1 ++ m2,by rw[e2,Array.append_assoc]⟩
 ·obtain⟨m,hn,hl⟩:=I.loc
  refine⟨m,ns m hn,fun i x v e1 e2 e3=>?_⟩
  obtain⟨u,r,l⟩:=hl i x v e1 e2 e3
  refine⟨u,r,?_⟩
  rcases l with l | ⟨k,c,e,z⟩
  ·exact .inl l
  ·exact .inr ⟨k,c,e,cellK x c e _ z⟩
 ·obtain⟨v,z⟩:=I.cell x c e
  exact⟨v,cellK x c e v z⟩
 ·obtain⟨m,⟨o,_,_,ho,_⟩,_⟩:=I.loc
  exact free _ o (fun z=>(hch _ z).2.1 rfl) ho I.free
 ·obtain⟨v,o,ho,hd⟩:=I.cell x c e
  exact free c o (fun z=>(hch c z).2.2.1 x c e rfl) ho (I.freeC x c e)
 ·obtain⟨e,n,ne,nf,d⟩:=I.pin p hp
  have nch:p.1∉ch:=fun z=>(hch p.1 z).2.2.2 p hp rfl
  exact⟨keep p.1 p.2 ne nf nch e n,free p.1 p.2 nch e n,ne,nf,d⟩
theorem Inv.un {t':Nat}(I:Inv X pins σ H s)(u:Un X.fs [] H H' s.heap h')(hok:HOk X.prog X.w H' h'):Inv X pins σ H' { s with heap:=h',toks:=t' }:=by
 obtain⟨m,⟨o,es,ep,ho,r⟩,_⟩:=id I.loc
 obtain⟨sl,hL⟩:=u.any ho I.free (by simp)
 exact I.step (g':=s.gens) (d':=s.drawn) (ch:=[]) (fun _ z=>nomatch z) (fun b o _ hb _ e n=>u.keep b o e n hb (by simp)) (fun b o _ hb _ e n=>u.slot b o e n hb (by simp)) (fun b o _ e n=>u.free b o e n (by simp)) (fun b o _ e=>u.there b o e (by simp)) u.tups u.frzs u.tbls (fun m' hm=>by
  obtain⟨o',es',ep',ho',r'⟩:=hm
  rw[ho] at ho';cases ho'
  exact⟨_,es',ep',hL,r'⟩) hok I.bare
theorem Inv.call {g':Array GenState}{t':Nat}{d':Drawn}{ch:List Addr}(I:Inv X pins σ H s)(u:Un (frs X.stack) ch H H' s.heap h')(hok:HOk X.prog X.w H' h')(hg:AllBare g')
  (hch:∀ b∈ch,(b∈X.ex∨X.s₀.heap.objs.size≤b)∧b≠X.env.locals∧(∀ x c,X.env.cells.lookup x=some c→c≠b)∧∀ p∈X.pn ++ pins,p.1≠b) :
  Inv X pins σ H' { s with heap:=h',gens:=g',drawn:=d',toks:=t' }:=by
 obtain⟨m,⟨o,es,ep,ho,r⟩,_⟩:=id I.loc
 obtain⟨sl,hL⟩:=u.any ho I.free fun z=>(hch _ z).2.1 rfl
 exact I.step (ch:=ch) hch (fun b o hL hb hc e n=>u.keep b o e n (fun z=>(List.mem_cons.mp (I.zFk b z)).elim hL hb) hc) (fun b o _ _ hc e n=>u.any e n hc) (fun b o hc e n=>u.free b o e n hc) (fun b o hc e=>u.there b o e hc) u.tups u.frzs u.tbls (fun m' hm=>by
  obtain⟨o',es',ep',ho',r'⟩:=hm
  rw[ho] at ho';cases ho'
  exact⟨_,es',ep',hL,r'⟩) hok hg
theorem Inv.turned {t':Nat}{it:Addr}(I:Inv X pins σ H s)(k:∀ b o,b≠it→s.heap.get? b=some o→h'.get? b=some o)(hn:H it=none)(hL:it≠X.env.locals)
  (h1:it∈X.ex∨X.s₀.heap.objs.size≤it)(h2:∀ x c,X.env.cells.lookup x=some c→c≠it)(h3:∀ p∈X.pn ++ pins,p.1≠it):Inv X pins σ H { s with heap:=h',toks:=t' }:=by
 have nit:∀ b u,H b=some u→b≠it:=fun b u e z=>by rw[z,hn] at e;cases e
 refine I.step (g':=s.gens) (d':=s.drawn) (ch:=[it]) (fun b hb=>?_) (fun b o _ _ hc e _=>k b o (fun z=>hc (by simp [z])) e) (fun b o _ _ hc e _=>⟨o.slots,k b o (fun z=>hc (by simp [z])) e⟩) (fun _ _ _ _ n=>n)
  (fun b o hc e=>⟨o,k b o (fun z=>hc (by simp [z])) e⟩) (fun _ _ e=>e) (fun _ _ _ e=>e) (fun b ps e=>⟨#[],by rw[e];simp⟩) (fun m hm=>?_) (fun b u e=>?_) I.bare
 ·have e:b=it:=by simpa using hb
  subst e
  exact⟨h1,hL,h2,h3⟩
 ·obtain⟨o,es,ep,ho,r⟩:=hm
  exact⟨o,es,ep,k _ o (Ne.symm hL) ho,r⟩
 ·refine (I.hok b u e).stay (fun c v hc q=>k c v ?_ q) (fun _ q=>q) fun _ _ q=>q
  rcases hc with z | z
  ·rw[z];exact nit b u e
  ·exact nit c _ z
theorem Inv.tok (I:Inv X pins σ H s)(t:Nat):Inv X pins σ H { s with toks:=t }:=I.un (h':=s.heap) (t':=t) Un.refl I.hok
theorem Inv.kept {t':Nat}(I:Inv X pins σ H s)(k:∀ b u,s.heap.get? b=some u→h'.get? b=some u):Inv X pins σ H { s with heap:=h',toks:=t' }:=I.un (Un.kept k) (I.hok.kept k)
theorem Inv.laid {a:Addr}{o:HO}{t':Nat}(I:Inv X pins σ H s)(k:∀ b u,s.heap.get? b=some u→h'.get? b=some u)(hp:s.heap.objs.size≤a)(new:vY X.prog X.w (upd H a o) h' a o) :
  Inv X pins σ (upd H a o) { s with heap:=h',toks:=t' }:=I.un (Un.laid k hp (I.hok.fresh hp)) (I.hok.laid k hp new)
theorem Inv.write {x e:Addr}{o:HO}{t':Nat}(I:Inv X pins σ H s)(mu:Mut (H x))(he:e=x∨H e=some (.own x))(k:∀ b u,b≠e→s.heap.get? b=some u→h'.get? b=some u)(heo:∃ u,h'.get? e=some u)
  (new:vY X.prog X.w (upd H x o) h' x o):Inv X pins σ (upd H x o) { s with heap:=h',toks:=t' }:=I.un (Un.write mu he k heo) (I.hok.write mu he k heo new)
theorem Inv.weak {σ':List (Option V)}(I:Inv X pins σ H s)(hl:σ'.length=σ.length)(w:∀ (i:Nat) v,σ'[i]?=some (some v)→σ[i]?=some (some v)):Inv X pins σ' H s :=
 ⟨I.ok,I.os,I.bare,I.base,let ⟨m,hn,hl'⟩:=I.loc;⟨m,hn,fun i x v e1 e2 e3=>hl' i x v e1 (w i v e2) e3⟩,I.cell,I.free,I.freeC,I.pin,I.hok,hl.trans I.len⟩
theorem Inv.zBh {pins':List (Addr×Obj)}(I:Inv X pins σ H s)(h:∀ p∈pins',s.heap.get? p.1=some p.2∧H p.1=none∧p.1≠X.env.locals∧p.1∉X.fs∧∀ v,p.2.data≠.cell v):Inv X pins' σ H s :=
 ⟨I.ok,I.os,I.bare,I.base,I.loc,I.cell,I.free,I.freeC,fun p hp=>(List.mem_append.mp hp).elim (fun z=>I.pin p (List.mem_append_left _ z)) (h p),I.hok,I.len⟩
theorem nodup_ix {N:List Str}(hN:N.Nodup){i j:Nat}{x:Str}(a:N[i]?=some x)(b:N[j]?=some x):i=j:=by
 obtain⟨h1,e1⟩:=List.getElem?_eq_some_iff.mp a
 obtain⟨h2,e2⟩:=List.getElem?_eq_some_iff.mp b
 exact (List.getElem_inj hN).mp (e1.trans e2.symm)
theorem store_ok2 {M:Model}{A:Around}{E:Value→Shared→Prop}{i:Nat}{x:Str}{v:V}{u:Value}{Q:Unit→Shared→Prop}(I:Inv X pins σ H s)(hN:X.N.Nodup)(hi:X.N[i]?=some x)(hx:Loc X.env.scope x)(r:RelV v u)
  (h:∀ s',Inv X pins (σ.set i (some v)) H s'→(∃ a,Heap.SameBut a s.heap s'.heap∧(a=X.env.locals∨X.env.cells.lookup x=some a))→Q () s')(hf:X.fn x=true∨X.env.scope.names.lookup x=some .local:=by first | exact .inl rfl | exact .inr rfl | assumption):wpAny M A (storeName X.env x u) Q E s:=by
 obtain⟨m,hn,hl⟩:=id I.loc
 have hcls:(X.env.scope.kind == .class || (X.env.scope.kind == .module && X.env.locals != X.env.globals))=false:=by rw[I.ok.kind];rfl
 have hiσ:i < σ.length:=by rw[I.len];exact (List.getElem?_eq_some_iff.mp hi).1
 have cne:=I.cne
 have tracked:∀ {a:Addr}{h':Heap},(∃ o,s.heap.get? a=some o∧H a=none)→Heap.SameBut a s.heap h'→HOk X.prog X.w H h':=fun {a h'} ha hs b ob e=>by
  obtain⟨_,_,hfree⟩:=ha
  refine (I.hok b ob e).stay (fun c w' hc q=>(hs.2 c ?_).trans q) (fun _ q=>q) fun _ _ q=>q
  rintro rfl
  rcases hc with rfl | hc
  ·rw[hfree] at e;cases e
  ·rw[hfree] at hc;cases hc
 rcases hx with hk | hk
 ·refine wpAny_storeName_local hk hn (fun h' hn' hs=>?_) hcls
  obtain⟨oL,_,_,hoL,_⟩:=id hn
  refine h _ ⟨I.ok,I.os,I.bare,⟨fun b o e n hb hx=>?_,fun b o e n hb hx=>?_,I.base.free,fun b o e hx=>?_,I.base.tups,I.base.frzs,I.base.tbls⟩,⟨_,hn',fun j y v' e1 e2 e3=>?_⟩,fun y c e=>?_,I.free,I.freeC,fun p hp=>?_,tracked ⟨oL,hoL,I.free⟩ hs,by simpa using I.len⟩ ⟨_,hs,.inl rfl⟩
  ·exact (hs.2 b (Nat.ne_of_lt (Nat.lt_of_lt_of_le (Heap.lt_size e) I.ok.above))).trans (I.base.keep b o e n hb hx)
  ·obtain⟨sl,e1⟩:=I.base.slot b o e n hb hx
   exact⟨sl,(hs.2 b (Nat.ne_of_lt (Nat.lt_of_lt_of_le (Heap.lt_size e) I.ok.above))).trans e1⟩
  ·obtain⟨o',e1⟩:=I.base.there b o e hx
   exact⟨o',(hs.2 b (Nat.ne_of_lt (Nat.lt_of_lt_of_le (Heap.lt_size e) I.ok.above))).trans e1⟩
  ·by_cases hj:j=i
   ·subst hj
    rw[hi] at e1;cases e1
    rw[List.getElem?_set_self hiσ] at e2
    cases e2
    exact⟨u,r,.inl ⟨hk,by simp⟩⟩
   ·rw[List.getElem?_set_ne (Ne.symm hj)] at e2
    obtain⟨u',r',q⟩:=hl j y v' e1 e2 e3
    refine⟨u',r',?_⟩
    rcases q with ⟨k,e⟩ | ⟨k,c,e,z⟩
    ·refine .inl ⟨k,?_⟩
     have:y≠x:=fun e=>hj (nodup_ix hN e1 (e▸hi))
     simp [this,e]
    ·exact .inr ⟨k,c,e,z.sameBut hs (cne y c e)⟩
  ·obtain⟨w',z⟩:=I.cell y c e
   exact⟨w',z.sameBut hs (cne y c e)⟩
  ·obtain⟨e,n,ne,nf,d⟩:=I.pin p hp
   exact⟨(hs.2 p.1 ne).trans e,n,ne,nf,d⟩
 ·have hfn:X.fn x=true:=by
   rcases hf with z | z
   ·exact z
   ·rw[z] at hk;cases hk
  obtain⟨c,hc⟩:=I.ok.has x (.inl hk)
  obtain⟨w',z⟩:=I.cell x c hc
  refine wpAny_storeName_cell I.ok.kind hk hc z (fun h' hc' hs=>?_)
  obtain⟨oc,hoc,hocd⟩:=id z
  refine h { s with heap:=h' } ⟨I.ok,I.os,I.bare,⟨fun b o e n hb hx=>?_,fun b o e n hb hx=>?_,I.base.free,fun b o e hx=>?_,I.base.tups,I.base.frzs,I.base.tbls⟩,⟨m,hn.sameBut hs (Ne.symm (cne x c hc)),fun j y v' e1 e2 e3=>?_⟩,fun y c' e=>?_,I.free,I.freeC,fun p hp=>?_,tracked ⟨oc,hoc,I.freeC x c hc⟩ hs,by simpa using I.len⟩ ⟨c,hs,.inr hc⟩
  ·exact (hs.2 b (Nat.ne_of_lt (Nat.lt_of_lt_of_le (Heap.lt_size e) (I.ok.cab x c hfn hc)))).trans (I.base.keep b o e n hb hx)
  ·obtain⟨sl,e1⟩:=I.base.slot b o e n hb hx
   exact⟨sl,(hs.2 b (Nat.ne_of_lt (Nat.lt_of_lt_of_le (Heap.lt_size e) (I.ok.cab x c hfn hc)))).trans e1⟩
  ·obtain⟨o',e1⟩:=I.base.there b o e hx
   exact⟨o',(hs.2 b (Nat.ne_of_lt (Nat.lt_of_lt_of_le (Heap.lt_size e) (I.ok.cab x c hfn hc)))).trans e1⟩
  ·by_cases hj:j=i
   ·subst hj
    rw[hi] at e1;cases e1
    rw[List.getElem?_set_self hiσ] at e2
    cases e2
    exact⟨u,r,.inr ⟨.inl hk,c,hc,hc'⟩⟩
   ·rw[List.getElem?_set_ne (Ne.symm hj)] at e2
    obtain⟨u',r',q⟩:=hl j y v' e1 e2 e3
    refine⟨u',r',?_⟩
    rcases q with q | ⟨k,c',e,z'⟩
    ·exact .inl q
    ·refine .inr ⟨k,c',e,z'.sameBut hs ?_⟩
     rintro rfl
     exact hj (nodup_ix hN e1 (I.ok.inj _ _ _ e hc▸hi))
  ·by_cases hcc:c'=c
   ·subst hcc;exact⟨_,hc'⟩
   ·obtain⟨w2,z2⟩:=I.cell y c' e
    exact⟨w2,z2.sameBut hs hcc⟩
  ·obtain⟨e,n,ne,nf,d⟩:=I.pin p hp
   refine⟨(hs.2 p.1 ?_).trans e,n,ne,nf,d⟩
   intro q
   rw[q,hoc] at e
   have q':oc=p.2:=Option.some.inj e
   exact d w' (by rw[← q'];exact hocd)
theorem zBx {M:Model}{A:Around}{E:Value→Shared→Prop}{i:Nat}{x:Str}{v:V}{u:Value}{Q:Unit→Shared→Prop}(I:Inv X pins σ H s)(hN:X.N.Nodup)(hi:X.N[i]?=some x)(hx:Loc X.env.scope x)(r:RelV v u)
  (h:∀ s',Inv X pins (σ.set i (some v)) H s'→Q () s')(hf:X.fn x=true∨X.env.scope.names.lookup x=some .local:=by first | exact .inl rfl | exact .inr rfl | assumption):wpAny M A (storeName X.env x u) Q E s :=
 store_ok2 I hN hi hx r (fun s' I' _=>h s' I') hf
theorem Inv.call' {s':Shared}{ch:List Addr}(I:Inv X pins σ H s)(ho:s'.os=s.os)(u:Un (frs X.stack) ch H H' s.heap s'.heap)(hok:HOk X.prog X.w H' s'.heap)(hg:AllBare s'.gens)
  (hch:∀ b∈ch,(b∈X.ex∨X.s₀.heap.objs.size≤b)∧b≠X.env.locals∧(∀ x c,X.env.cells.lookup x=some c→c≠b)∧∀ p∈X.pn ++ pins,p.1≠b):Inv X pins σ H' s':=by
 obtain⟨h',g',d',t',o'⟩:=s'
 have e:o'=s.os:=ho
 subst e
 exact I.call (g':=g') (t':=t') (d':=d') u hok hg hch
end
abbrev XK:=Value→Option Addr→Hp→Prop
abbrev St:=List (Option V)
abbrev VK:=V→Hp→Prop
abbrev TE:=St→Hp→VK→Prop
abbrev TT:=St→Hp→(Bool→Hp→Prop)→Prop
abbrev TA:=St→Hp→(List V→Hp→Prop)→Prop
structure Ends where
 nx:St→Hp→Prop
 rt:VK
 bk:St→Hp→Prop:=fun _ _=>False
 ct:St→Hp→Prop:=fun _ _=>False
abbrev TS:=Ends→St→Hp→Prop
def EP (X:Cx)(pins:List (Addr×Obj))(σ:St)(Q:VK)(u:Value)(s':Shared):Prop:=∃ v H',Inv X pins σ H' s'∧RelV v u∧Q v H'
def TP (X:Cx)(pins:List (Addr×Obj))(σ:St)(Q:Bool→Hp→Prop)(b:Bool)(s':Shared):Prop:=∃ H',Inv X pins σ H' s'∧Q b H'
def AP (X:Cx)(pins:List (Addr×Obj))(σ:St)(Q:List V→Hp→Prop)(us:List Value)(s':Shared):Prop:=∃ vs H',Inv X pins σ H' s'∧Vals vs us∧Q vs H'
def SP (X:Cx)(pins:List (Addr×Obj))(D:Ends)(f:Flow)(s':Shared):Prop :=
 match f with
 | .next=>∃ σ' H',Inv X pins σ' H' s'∧D.nx σ' H'
 | .brk=>∃ σ' H',Inv X pins σ' H' s'∧D.bk σ' H'
 | .cont=>∃ σ' H',Inv X pins σ' H' s'∧D.ct σ' H'
 | .ret u=>∃ v σ' H',Inv X pins σ' H' s'∧RelV v u∧D.rt v H'
def PE (X:Cx)(e:Expr)(t:TE):Prop :=
 ∀ (pins:List (Addr×Obj))(s:Shared)(σ:St)(H:Hp)(Q:VK),Inv X pins σ H s→t σ H Q→wpAny (model X.prog X.w) X.A (eval e X.env) (EP X pins σ Q) X.xe s
def PT (X:Cx)(e:Expr)(t:TT):Prop :=
 ∀ (pins:List (Addr×Obj))(s:Shared)(σ:St)(H:Hp)(Q:Bool→Hp→Prop),Inv X pins σ H s→t σ H Q→wpAny (model X.prog X.w) X.A (isTrue e X.env (eval e X.env)) (TP X pins σ Q) X.xe s
def PW (X:Cx)(e:Expr)(t:TT):Prop :=
 ∀ (whole:Sem Value)(pins:List (Addr×Obj))(s:Shared)(σ:St)(H:Hp)(Q:Bool→Hp→Prop),Inv X pins σ H s→t σ H Q→wpAny (model X.prog X.w) X.A (isTrue e X.env whole) (TP X pins σ Q) X.xe s
theorem PW.pt {X:Cx}{e:Expr}{t:TT}(h:PW X e t):PT X e t:=h _
def PA (X:Cx)(es:List Expr)(t:TA):Prop :=
 ∀ (pos:Pos)(pins:List (Addr×Obj))(s:Shared)(σ:St)(H:Hp)(Q:List V→Hp→Prop),Inv X pins σ H s→t σ H Q→wpAny (model X.prog X.w) X.A (spliced (backTo pos (starEach es X.env))) (AP X pins σ Q) X.xe s
def PS (X:Cx)(st:Stmt)(t:TS):Prop :=
 ∀ (pins:List (Addr×Obj))(s:Shared)(σ:St)(H:Hp)(D:Ends),Inv X pins σ H s→t D σ H→wpAny (model X.prog X.w) X.A (exec st X.env) (SP X pins D) X.xe s
def PSs (X:Cx)(st:List Stmt)(t:TS):Prop :=
 ∀ (pins:List (Addr×Obj))(s:Shared)(σ:St)(H:Hp)(D:Ends),Inv X pins σ H s→t D σ H→wpAny (model X.prog X.w) X.A (execs st X.env) (SP X pins D) X.xe s
theorem thn {α:Type}{t:Sem α}{Q Q':α→Shared→Prop}{M:Model}{A:Around}{E:Value→Shared→Prop}{s:Shared}(h:wpAny M A t Q E s)(hQ:∀ a s,Q a s→Q' a s):wpAny M A t Q' E s:=wpAny_mono h hQ fun _ _ x=>x
end L2
namespace L2
open PySem PySem.Spec PyProof.Rows
section
variable {X:Cx}
def tVar (i:Nat):TE:=fun σ H Q=>∃ v,σ[i]?=some (some v)∧Q v H
def tC (v:V):TE:=fun _ H Q=>Q v H
theorem pe_var {i:Nat}{x:Str}{pos:Pos}(hN:X.N[i]?=some x)(hv:Vis X.env.scope x)(hd:(x == ("__debug__":Str))=false:=by decide)(hcd:(x == ("__classdict__":Str))=false:=by decide):PE X (.Name x pos) (tVar i):=by
 intro pins s σ H Q I h
 obtain⟨v,e,h⟩:=h
 obtain⟨m,hn,hl⟩:=I.loc
 obtain⟨u,r,l⟩:=hl i x v hN e hv
 have fin:EP X pins σ Q u s:=⟨v,H,I,r,h⟩
 rcases l with ⟨hk,hm⟩ | ⟨hk,c,hc,hcell⟩
 ·exact wpAny_Name (wpAny_loadName_local I.ok.kind hk hn hm fin) hd
 ·rcases hk with hk | hk
  ·exact wpAny_Name (wpAny_loadName_cell I.ok.kind hk hc hcell fin) hd
  ·exact wpAny_Name (wpAny_loadName_free I.ok.kind hk hc hcell fin hcd) hd
theorem zG {i j pos}:PE X (.Constant (.int i) j pos) (tC (.int i)):=fun _ _ _ H _ I h=>wpAny_Constant_int ⟨.int i,H,I.tok _,⟨_,rfl⟩,h⟩
theorem zEu {b j pos}:PE X (.Constant (.bool b) j pos) (tC (.bl b)):=fun _ _ _ H _ I h=>Constant_bool ⟨.bl b,H,I,rfl,h⟩
theorem pe_str {x j pos}:PE X (.Constant (.str x) j pos) (tC (.str x)):=fun _ _ _ H _ I h=>Calls.Constant_str ⟨.str x,H,I.tok _,⟨_,rfl⟩,h⟩
def Gl (X:Cx)(x:Str):Prop:=X.env.kindOf x=some .globalImplicit
theorem ld_glob {E:Value→Shared→Prop}{pins:List (Addr×Obj)}{s:Shared}{σ:St}{H:Hp}{x:Str}{u:Value}{pos:Pos}{Q:Value→Shared→Prop}(I:Inv X pins σ H s)(hg:Gl X x)(hm:X.mg x=some u)(h:Q u s)
  (hd:(x == ("__debug__":Str))=false:=by decide):wpAny (model X.prog X.w) X.A (eval (.Name x pos) X.env) Q E s :=
 Calls.Name_function_global I.ok.kind hg (Calls.loadGlobal_global (by rw[I.ok.glob];exact I.mod.glob.keeps I.bk) hm h) hd
theorem zAq {E:Value→Shared→Prop}{pins:List (Addr×Obj)}{s:Shared}{σ:St}{H:Hp}{x:Str}{u:Value}{pos:Pos}{Q:Value→Shared→Prop}(I:Inv X pins σ H s)(hg:Gl X x)(hm:X.mg x=none)(hv:bootBuiltins x=some u)(h:Q u s)
  (hn:x≠"__name__":=by decide)(hd:(x == ("__debug__":Str))=false:=by decide):wpAny (model X.prog X.w) X.A (eval (.Name x pos) X.env) Q E s:=by
 obtain⟨mb,h1,h2⟩:=I.mod.blt
 exact Calls.Name_function_global I.ok.kind hg (Calls.loadGlobal_builtin (by rw[I.ok.glob];exact I.mod.glob.keeps I.bk) hm (by rw[I.ok.blt];exact h1.keeps I.bk) ((h2 x hn).trans hv) h) hd
theorem vV {x:Str}{v:V}{u:Value}{pos:Pos}(hg:Gl X x)(hm:X.mg x=some u)(r:RelV v u)(hd:(x == ("__debug__":Str))=false:=by decide):PE X (.Name x pos) (tC v) :=
 fun _ _ _ H _ I h=>ld_glob I hg hm ⟨v,H,I,r,h⟩ hd
theorem zCg {x:Str}{v:V}{u:Value}{pos:Pos}(hg:Gl X x)(hm:X.mg x=none)(hv:bootBuiltins x=some u)(r:RelV v u)(hn:x≠"__name__":=by decide)(hd:(x == ("__debug__":Str))=false:=by decide):PE X (.Name x pos) (tC v) :=
 fun _ _ _ H _ I h=>zAq I hg hm hv ⟨v,H,I,r,h⟩ hn hd
variable {a b:Expr}{ta tb:TE}{pos:Pos}
def tB (t:TE):TT:=fun σ H Q=>t σ H fun x H1=>∃ c,x=.bl c∧Q c H1
theorem zEe {e:Expr}{t:TE}(h:PE X e t)(he:∀ whole,isTrue e X.env whole=(do let v ← whole;standAt e.pos;holding [v] (truthy v)):=by intro _;rfl):PT X e (tB t):=by
 intro pins s σ H Q I hw
 refine isTrue_plain (thn (h pins s σ H _ I hw) fun v s1 ⟨x,H1,I1,r1,q1⟩=>?_) (he _)
 obtain⟨d,rfl,q⟩:=q1
 cases r1
 exact wpAny_truthy_bool ⟨H1,I1,q⟩
variable {tA tB':TT}{rest:List Expr}
def tOr (t u:TT):TT:=fun σ H Q=>t σ H fun c H1=>if c=true then Q true H1 else u σ H1 Q
def tNot (t:TT):TT:=fun σ H Q=>t σ H fun c H1=>Q (!c) H1
theorem pw_or1 (ha:PT X a tA):PW X (.BoolOp .Or [a] pos) tA:=by
 intro wh pins s σ H Q I h
 refine isTrue_or (thn (ha pins s σ H Q I h) fun c s1 e=>?_)
 cases c with
 | false=>exact isTrue_or_nil e
 | true=>exact e
theorem pw_or (ha:PT X a tA)(hb:PW X (.BoolOp .Or (b::rest) pos) tB'):PW X (.BoolOp .Or (a::b::rest) pos) (tOr tA tB'):=by
 intro wh pins s σ H Q I h
 refine isTrue_or (thn (ha pins s σ H _ I h) fun c s1 ⟨H1,I1,q1⟩=>?_)
 cases c with
 | true=>exact⟨H1,I1,q1⟩
 | false=>exact hb wh pins s1 σ H1 Q I1 q1
theorem zEk (ha:PT X a tA):PT X (.UnaryOp .Not a pos) (tNot tA):=by
 intro pins s σ H Q I h
 exact isTrue_not (ha pins s σ H (fun c H1=>Q (!c) H1) I h)
def tAndV (ta tb:TE):TE:=fun σ H Q=>ta σ H fun x H1=>∃ c,x=.bl c∧if c=true then tb σ H1 Q else Q (.bl false) H1
def tOrV (ta tb:TE):TE:=fun σ H Q=>ta σ H fun x H1=>∃ c,x=.bl c∧if c=true then Q (.bl true) H1 else tb σ H1 Q
def tNotV (ta:TE):TE:=fun σ H Q=>ta σ H fun x H1=>∃ c,x=.bl c∧Q (.bl (!c)) H1
theorem pe_one {op}{t:TE}(h:PE X a t):PE X (.BoolOp op [a] pos) t:=fun pins s σ H Q I hw=>BoolOp_one (h pins s σ H Q I hw)
theorem pe_and (ha:PE X a ta)(hb:PE X (.BoolOp .And (b::rest) pos) tb):PE X (.BoolOp .And (a::b::rest) pos) (tAndV ta tb):=by
 intro pins s σ H Q I h
 refine BoolOp_and (thn (ha pins s σ H _ I h) fun v s1 ⟨x,H1,I1,r1,q1⟩=>?_)
 obtain⟨c,rfl,q1⟩:=q1
 cases r1
 refine wpAny_truthy_bool ?_
 cases c with
 | true=>exact hb pins s1 σ H1 Q I1 q1
 | false=>exact⟨.bl false,H1,I1,rfl,q1⟩
theorem pe_or (ha:PE X a ta)(hb:PE X (.BoolOp .Or (b::rest) pos) tb):PE X (.BoolOp .Or (a::b::rest) pos) (tOrV ta tb):=by
 intro pins s σ H Q I h
 refine BoolOp_or (thn (ha pins s σ H _ I h) fun v s1 ⟨x,H1,I1,r1,q1⟩=>?_)
 obtain⟨c,rfl,q1⟩:=q1
 cases r1
 refine wpAny_truthy_bool ?_
 cases c with
 | false=>exact hb pins s1 σ H1 Q I1 q1
 | true=>exact⟨.bl true,H1,I1,rfl,q1⟩
theorem pe_not (ha:PE X a ta):PE X (.UnaryOp .Not a pos) (tNotV ta):=by
 intro pins s σ H Q I h
 refine UnaryOp_ (thn (ha pins s σ H _ I h) fun v s1 ⟨x,H1,I1,r1,q1⟩=>?_)
 obtain⟨c,rfl,q1⟩:=q1
 cases r1
 exact not_of (wpAny_truthy_bool ⟨.bl (!c),H1,I1,rfl,q1⟩)
end
end L2
namespace L2
open PySem PySem.Spec PyProof.Rows
def SqL (K:PySem.W.Frag)(H:Hp)(a:Addr)(xs:List V):Prop :=
 Rd H a (.lst xs) ∨
  ∃ (o:Obj)(its:Array Value)(n:Nat),K.lookup a=some o∧o.cls=.type "list"∧o.dict=none∧o.data=.seq its n∧its.size≤sizeLine∧Vals xs its.toList
def SqT (K:PySem.W.Frag)(H:Hp)(a:Addr)(xs:List V):Prop :=
 Rd H a (.tup xs) ∨
  ∃ (o:Obj)(its:Array Value)(n:Nat),K.lookup a=some o∧o.cls=.type "tuple"∧o.data=.seq its n∧its.size≤sizeLine∧Vals xs its.toList
def absV:Value→Option V
 | .none=>some .non
 | .bool b=>some (.bl b)
 | .int i _=>some (.int i)
 | .str x _=>some (.str x)
 | .bytes b _=>some (.byt b)
 | .float b _=>some (.flt b)
 | .ref a=>some (.ref a)
 | .type n=>some (.ty n)
 | _=>none
theorem RelV.abs {x:V}{u:Value}(r:RelV x u):absV u=some x:=by
 cases x with
 | non=>cases r;rfl
 | bl _=>cases r;rfl
 | int _=>obtain⟨t,rfl⟩:=r;rfl
 | str _=>obtain⟨t,rfl⟩:=r;rfl
 | byt _=>obtain⟨t,rfl⟩:=r;rfl
 | flt _=>obtain⟨t,rfl⟩:=r;rfl
 | ref _=>cases r;rfl
 | ty _=>cases r;rfl
theorem RelV.inj {x y:V}{u:Value}(r:RelV x u)(q:RelV y u):x=y:=Option.some.inj (r.abs.symm.trans q.abs)
theorem Vals.inj:∀ {xs ys:List V}{us:List Value},Vals xs us→Vals ys us→xs=ys
 | _,_,_,.nil,.nil=>rfl
 | _,_,_,.cons r t,.cons r' t'=>by rw[r.inj r',Vals.inj t t']
section
variable {X:Cx}{pins:List (Addr×Obj)}{σ:St}{H:Hp}{s:Shared}{a:Addr}{xs ys:List V}
theorem SqL.of {K:PySem.W.Frag}(h:H a=some (.lst xs)):SqL K H a xs:=.inl (.inl h)
theorem SqT.of {K:PySem.W.Frag}(h:H a=some (.tup xs)):SqT K H a xs:=.inl (.inl h)
theorem Inv.list (I:Inv X pins σ H s)(h:SqL X.K H a xs):∃ its:List Value,Vals xs its∧PlainL s.heap a its.toArray∧xs.length≤sizeLine:=by
 rcases h with h | ⟨o,its,n,hk,hc,hd,hs,hz,r⟩
 ·obtain⟨z,its,n,r,e⟩:=h.ok I.hok
  exact⟨its,r,⟨_,n,e,rfl,rfl,rfl⟩,z⟩
 ·refine⟨its.toList,r,⟨o,n,I.kIn a o hk,hc,hd,by simpa using hs⟩,?_⟩
  have e:=r.length
  simp only [Array.length_toList] at e
  omega
theorem Inv.tuple (I:Inv X pins σ H s)(h:SqT X.K H a xs):∃ its:List Value,Vals xs its∧IsTup s.heap a its.toArray∧xs.length≤sizeLine:=by
 rcases h with h | ⟨o,its,n,hk,hc,hs,hz,r⟩
 ·obtain⟨z,its,r,p⟩:=h.ok I.hok
  exact⟨its,r,p,z⟩
 ·refine⟨its.toList,r,⟨o,I.kIn a o hk,hc,n,by simpa using hs⟩,?_⟩
  have e:=r.length
  simp only [Array.length_toList] at e
  omega
theorem Inv.zDk (I:Inv X pins σ H s)(h:SqL X.K H a xs)(h':SqL X.K H a ys):xs=ys:=by
 obtain⟨its,r,⟨o,n,e,_,_,d⟩,_⟩:=I.list h
 obtain⟨its',r',⟨o',n',e',_,_,d'⟩,_⟩:=I.list h'
 rw[e] at e';cases e'
 rw[d] at d'
 injection d' with d1 _
 have:its=its':=by simpa using congrArg Array.toList d1
 subst this
 exact r.inj r'
theorem Inv.tuple_inj (I:Inv X pins σ H s)(h:SqT X.K H a xs)(h':SqT X.K H a ys):xs=ys:=by
 obtain⟨its,r,⟨o,e,_,n,d⟩,_⟩:=I.tuple h
 obtain⟨its',r',⟨o',e',_,n',d'⟩,_⟩:=I.tuple h'
 rw[e] at e';cases e'
 rw[d] at d'
 injection d' with d1 _
 have:its=its':=by simpa using congrArg Array.toList d1
 subst this
 exact r.inj r'
end
abbrev Cx.wish (X:Cx)(E:Value→Shared→Prop):Cx:={ X with xe:=E }
abbrev Cx.nox (X:Cx):Cx:=X.wish fun _ _=>False
theorem Cx.Ok.wish {X:Cx}(ok:X.Ok)(E:Value→Shared→Prop):(X.wish E).Ok :=
 ⟨ok.mod,ok.kind,ok.glob,ok.blt,ok.above,ok.inj,ok.has,ok.cab,ok.hd,ok.frames,ok.stk,ok.exf,ok.bs,ok.bsz,ok.noex,ok.exfs,ok.funs,ok.frf⟩
theorem Cx.Ok.zAa {X:Cx}{E:Value→Shared→Prop}(ok:(X.wish E).Ok):X.Ok :=
 ⟨ok.mod,ok.kind,ok.glob,ok.blt,ok.above,ok.inj,ok.has,ok.cab,ok.hd,ok.frames,ok.stk,ok.exf,ok.bs,ok.bsz,ok.noex,ok.exfs,ok.funs,ok.frf⟩
section
variable {X:Cx}{pins:List (Addr×Obj)}{σ:St}{H:Hp}{s:Shared}{E:Value→Shared→Prop}
theorem Inv.wish (I:Inv X pins σ H s)(E:Value→Shared→Prop):Inv (X.wish E) pins σ H s:=⟨I.ok.wish E,I.os,I.bare,I.base,I.loc,I.cell,I.free,I.freeC,I.pin,I.hok,I.len⟩
theorem Inv.zAa (I:Inv (X.wish E) pins σ H s):Inv X pins σ H s:=⟨I.ok.zAa,I.os,I.bare,I.base,I.loc,I.cell,I.free,I.freeC,I.pin,I.hok,I.len⟩
theorem SP.zAa {D:Ends}{f:Flow}{s':Shared}(h:SP (X.wish E) pins D f s'):SP X pins D f s':=by
 cases f with
 | next=>obtain⟨σ',H',I,q⟩:=h;exact⟨σ',H',I.zAa,q⟩
 | brk=>obtain⟨σ',H',I,q⟩:=h;exact⟨σ',H',I.zAa,q⟩
 | cont=>obtain⟨σ',H',I,q⟩:=h;exact⟨σ',H',I.zAa,q⟩
 | ret u=>obtain⟨v,σ',H',I,r,q⟩:=h;exact⟨v,σ',H',I.zAa,r,q⟩
theorem PE.nox {e:Expr}{t:TE}(h:PE X.nox e t):PE X e t:=fun pins s σ H Q I hw =>
 wpAny_mono (h pins s σ H Q (I.wish _) hw) (fun _ _ ⟨v,H',I',r,q⟩=>⟨v,H',I'.zAa,r,q⟩) fun _ _ z=>False.elim z
theorem PT.nox {e:Expr}{t:TT}(h:PT X.nox e t):PT X e t:=fun pins s σ H Q I hw =>
 wpAny_mono (h pins s σ H Q (I.wish _) hw) (fun _ _ ⟨H',I',q⟩=>⟨H',I'.zAa,q⟩) fun _ _ z=>False.elim z
theorem PSs.nox {st:List Stmt}{t:TS}(h:PSs X.nox st t):PSs X st t:=fun pins s σ H D I hw =>
 wpAny_mono (h pins s σ H D (I.wish _) hw) (fun _ _ q=>q.zAa) fun _ _ z=>False.elim z
end
section
variable {X:Cx}{st:Stmt}{rest:List Stmt}{t u:TS}{e:Expr}{te:TE}{pos:Pos}
def tNext:TS:=fun D σ H=>D.nx σ H
def tSeq (t u:TS):TS:=fun D σ H=>t { D with nx:=u D } σ H
theorem vB:PSs X [] tNext:=fun _ _ σ H _ I h=>wpAny_execs_nil ⟨σ,H,I,h⟩
theorem zE (h1:PS X st t)(h2:PSs X rest u):PSs X (st::rest) (tSeq t u):=by
 intro pins s σ H D I h
 refine wpAny_execs_cons (thn (h1 pins s σ H { D with nx:=u D } I h) fun f s1 q=>?_)
 cases f with
 | next =>
  obtain⟨σ',H',I',q⟩:=q
  exact h2 pins s1 σ' H' D I' q
 | ret v=>exact q
 | brk=>exact q
 | cont=>exact q
theorem zI (h1:PS X st t):PSs X [st] t:=by
 intro pins s σ H D I h
 refine wpAny_execs_cons (thn (h1 pins s σ H D I h) fun f s1 q=>?_)
 cases f with
 | next=>exact wpAny_execs_nil q
 | ret v=>exact q
 | brk=>exact q
 | cont=>exact q
theorem Inv.quiet {pins:List (Addr×Obj)}{σ:St}{H:Hp}{s:Shared}(I:Inv X pins σ H s):interactive X.env=false:=by simp [interactive,I.ok.kind]
def tDrop (te:TE):TS:=fun D σ H=>te σ H fun _ H1=>D.nx σ H1
theorem jF (he:PE X e te)(hs:swapsWith e none pos.line X.env=pure false:=by rfl):PS X (.Expr e pos) (tDrop te):=by
 intro pins s σ H D I h
 exact wpAny_Expr_any (thn (he pins s σ H _ I h) fun v s1 ⟨x,H1,I1,r1,q1⟩=>⟨σ,H1,I1,q1⟩) I.quiet hs
def tRet (te:TE):TS:=fun D σ H=>te σ H D.rt
theorem zV (he:PE X e te):PS X (.Return (some e) pos) (tRet te):=by
 intro pins s σ H D I h
 exact wpAny_Return_some (thn (he pins s σ H _ I h) fun v s1 ⟨x,H1,I1,r1,q1⟩=>⟨x,σ,H1,I1,r1,q1⟩)
def tIfS (c:TT)(t u:TS):TS:=fun D σ H=>c σ H fun b H1=>if b=true then t D σ H1 else u D σ H1
theorem wM {c:Expr}{a b:List Stmt}{tc:TT}(hc:PT X c tc)(ha:PSs X a t)(hb:PSs X b u):PS X (.If c a b pos) (tIfS tc t u):=by
 intro pins s σ H D I h
 refine wpAny_If (thn (hc pins s σ H _ I h) fun d s1 ⟨H1,I1,q1⟩=>?_)
 cases d with
 | true=>exact ha pins s1 σ H1 D I1 q1
 | false=>exact hb pins s1 σ H1 D I1 q1
def tNever:TS:=fun _ _ _=>False
theorem jW:PS X st tNever:=fun _ _ _ _ _ _ h=>h.elim
end
abbrev TG:=V→St→Hp→(St→Hp→Prop)→Prop
abbrev TGs:=List V→St→Hp→(St→Hp→Prop)→Prop
def PG (X:Cx)(target:Expr)(t:TG):Prop :=
 ∀ (pins:List (Addr×Obj))(s:Shared)(σ:St)(H:Hp)(v:V)(u:Value)(Q:St→Hp→Prop),Inv X pins σ H s→RelV v u→t v σ H Q →
  wpAny (model X.prog X.w) X.A (assign target X.env u) (fun _ s'=>∃ σ' H',Inv X pins σ' H' s'∧Q σ' H') X.xe s
def PGs (X:Cx)(ts:List Expr)(t:TGs):Prop :=
 ∀ (pins:List (Addr×Obj))(s:Shared)(σ:St)(H:Hp)(vs:List V)(us:List Value)(Q:St→Hp→Prop),Inv X pins σ H s→Vals vs us→t vs σ H Q →
  wpAny (model X.prog X.w) X.A (assignInOrder ((assignEach ts X.env).map (·.2)) us) (fun _ s'=>∃ σ' H',Inv X pins σ' H' s'∧Q σ' H') X.xe s
abbrev TSet:=V→V→V→Hp→(Hp→Prop)→Prop
def PSet (X:Cx)(t:TSet):Prop :=
 ∀ (pins:List (Addr×Obj))(s:Shared)(σ:St)(H:Hp)(o i v:V)(ov iv u:Value)(Q:Hp→Prop),Inv X pins σ H s→RelV o ov→RelV i iv→RelV v u→t o i v H Q →
  wpAny (model X.prog X.w) X.A (setItem ov iv u) (fun _ s'=>∃ H',Inv X pins σ H' s'∧Q H') X.xe s
section
variable {X:Cx}{pos:Pos}
def zEr (i:Nat):TG:=fun v σ H Q=>Q (σ.set i (some v)) H
theorem vA {i:Nat}{x:Str}(hN:X.N.Nodup)(hi:X.N[i]?=some x)(hx:Loc X.env.scope x)(hf:X.fn x=true∨X.env.scope.names.lookup x=some .local:=by first | exact .inl rfl | exact .inr rfl | assumption):PG X (.Name x pos) (zEr i):=by
 intro pins s σ H v u Q I r h
 exact wpAny_assign_Name (zBx I hN hi hx r (fun s' I'=>⟨_,H,I',h⟩) hf)
def gNil:TGs:=fun vs σ H Q=>vs=[]∧Q σ H
def gCons (t:TG)(u:TGs):TGs:=fun vs σ H Q=>∃ v r,vs=v::r∧t v σ H fun σ' H'=>u r σ' H' Q
theorem zCm:PGs X [] gNil:=by
 intro pins s σ H vs us Q I r h
 obtain⟨e,h⟩:=h
 subst e
 cases r
 exact assignInOrder_nil ⟨σ,H,I,h⟩
theorem wF {e:Expr}{es:List Expr}{t:TG}{u:TGs}(h1:PG X e t)(h2:PGs X es u)
  (hs:(assignEach (e::es) X.env).map (·.2)=assign e X.env::(assignEach es X.env).map (·.2):=by rfl):PGs X (e::es) (gCons t u):=by
 intro pins s σ H vs us Q I r h
 obtain⟨v,vr,e1,h⟩:=h
 subst e1
 cases r with
 | cons r rr =>
  rw[hs]
  refine assignInOrder_cons (thn (h1 pins s σ H _ _ _ I r h) fun _ s1 ⟨σ1,H1,I1,q1⟩=>?_)
  exact h2 pins s1 σ1 H1 _ _ Q I1 rr q1
def gTup (K:PySem.W.Frag)(n:Nat)(t:TGs):TG:=fun v σ H Q=>∃ a xs,v=.ref a∧SqT K H a xs∧xs.length=n∧t xs σ H Q
theorem zFl {es:List Expr}{k:Nat}{t:TGs}{n:Nat}(hc:X.calm=true)(h:PGs X es t)
  (hn:(assignEach es X.env).length=n:=by rfl)(hst:(assignEach es X.env).findIdx? (·.1)=none:=by rfl):PG X (.Tuple es k pos) (gTup X.K n t):=by
 intro pins s σ H v u Q I r hw
 obtain⟨a,xs,e1,hq,hl,hw⟩:=hw
 subst e1
 cases r
 obtain⟨its,rv,ht,hz⟩:=I.tuple hq
 refine assign_Tuple_tuple (I.ok.hd hc) ht (by simp [hn,← hl,rv.length]) hst fun h' hx=>?_
 have I1:Inv X pins σ H { s with heap:=h' }:=I.kept (t':=s.toks) fun b o e=>hx b o (Nat.ne_of_lt (Heap.lt_size e)) e
 exact h pins _ σ H xs _ Q I1 (by simpa using rv) hw
def gSub (to ti:TE)(t:TSet):TG:=fun v σ H Q=>to σ H fun o H1=>ti σ H1 fun i H2=>t o i v H2 fun H3=>Q σ H3
theorem zFi {o i:Expr}{to ti:TE}{t:TSet}(ho:PE X o to)(hi:PE X i ti)(hs:PSet X t)
  (ha:∀ v,assign (.Subscript o i pos) X.env v=(do
   let ov ← holding [v] (eval o X.env)
   let iv ← holding [v,ov] (eval i X.env)
   standAt pos
   holding [v,ov,iv] (setItem ov iv v)
   release [v,ov,iv] []):=by intro _;rfl):PG X (.Subscript o i pos) (gSub to ti t):=by
 intro pins s σ H v u Q I r h
 rw[ha]
 refine wpAny_bind (wpAny_holding (thn (ho pins s σ H _ I h) fun ov s1 ⟨x,H1,I1,r1,q1⟩=>?_))
 refine wpAny_bind (wpAny_holding (thn (hi pins s1 σ H1 _ I1 q1) fun iv s2 ⟨y,H2,I2,r2,q2⟩=>?_))
 refine wpAny_bind (wpAny_standAt (wpAny_bind (wpAny_holding (thn (hs pins s2 σ H2 x y v ov iv u _ I2 r1 r2 r q2) fun _ s3 ⟨H3,I3,q3⟩=>?_))))
 exact wpAny_release ⟨σ,H3,I3,q3⟩
def tAsg (te:TE)(g:TG):TS:=fun D σ H=>te σ H fun x H1=>g x σ H1 D.nx
theorem zFe {tg e:Expr}{te:TE}{g:TG}(he:PE X e te)(hg:PG X tg g)(hs:swapsWithSole [tg] e pos.line X.env=pure false:=by rfl)(hw:swappedStores [tg] e X.env=pure none:=by rfl)
  (h1:(assignEach [tg] X.env).map (·.2)=[assign tg X.env]:=by rfl):PS X (.Assign [tg] e pos) (tAsg te g):=by
 intro pins s σ H D I h
 refine wpAny_Assign_stores (thn (he pins s σ H _ I h) fun v s1 ⟨x,H1,I1,r1,q1⟩=>?_) hs hw
 rw[h1]
 exact thn (hg pins s1 σ H1 x v _ I1 r1 q1) fun _ s2 q=>q
theorem zL {i:Nat}{x:Str}{e:Expr}{te:TE}{pos':Pos}(hN:X.N.Nodup)(hi:X.N[i]?=some x)(hx:Loc X.env.scope x)(he:PE X e te)(hs:swapsWith e (some (.Name x pos')) pos.line X.env=pure false:=by rfl)(hf:X.fn x=true∨X.env.scope.names.lookup x=some .local:=by first | exact .inl rfl | exact .inr rfl | assumption) :
  PS X (.Assign [.Name x pos'] e pos) (tAsg te (zEr i)):=by
 intro pins s σ H D I h
 refine wpAny_Assign_Name (thn (he pins s σ H _ I h) fun v s1 ⟨y,H1,I1,r1,q1⟩=>?_) hs
 exact zBx I1 hN hi hx r1 (fun s2 I2=>⟨_,H1,I2,q1⟩) hf
def tPar (i j:Nat)(ta:TA):TS:=fun D σ H=>ta σ H fun vs H1=>∃ v w,vs=[v,w]∧D.nx ((σ.set i (some v)).set j (some w)) H1
theorem ps_par {i j:Nat}{x y:Str}{a b:Expr}{ta:TA}{px py pt:Pos}{kt k2 pt2}(hc:X.calm=true)(hN:X.N.Nodup)(hi:X.N[i]?=some x)(hj:X.N[j]?=some y)(hij:i≠j)
  (hx:X.env.scope.names.lookup x=some .local)(hy:X.env.scope.names.lookup y=some .local)(ha:PA X [a,b] ta)
  (hw:swappedStores [.Tuple [.Name x px,.Name y py] kt pt] (.Tuple [a,b] k2 pt2) X.env=pure (some [x,y]))
  (hs:swapsWithSole [.Tuple [.Name x px,.Name y py] kt pt] (.Tuple [a,b] k2 pt2) pos.line X.env=pure false:=by rfl) :
  PS X (.Assign [.Tuple [.Name x px,.Name y py] kt pt] (.Tuple [a,b] k2 pt2) pos) (tPar i j ta):=by
 intro pins s σ H D I h
 rw[exec_Assign_arm]
 refine wpAny_bind (wpAny_standAt ?_)
 rw[hs]
 refine wpAny_bind (wpAny_pure ?_)
 rw[if_neg (by decide)]
 refine wpAny_bind (Tuple_ (thn (ha _ pins s σ H _ I h) fun us s1 ⟨vs,H1,I1,r1,q1⟩=>?_))
 obtain⟨v,w,e1,q1⟩:=q1
 subst e1
 obtain⟨u1,u2,rfl,rv,rw'⟩:∃ u1 u2,us=[u1,u2]∧RelV v u1∧RelV w u2:=by
  cases r1 with
  | cons p q =>
   cases q with
   | cons p' q' =>
    cases q'
    exact⟨_,_,rfl,p,p'⟩
 refine wpAny_newObj_type ?_ (by show 2≤sizeLine;decide)
 have I2:Inv X pins σ H1 { s1 with heap:=s1.heap.push { cls:=.type "tuple",data:=.seq [u1,u2].toArray } }:=I1.kept (t':=s1.toks) fun b o e=>Heap.get?_push_of_some _ e
 rw[hw]
 refine wpAny_bind (wpAny_pure ?_)
 show wpAny (model X.prog X.w) X.A (do rule "assign.swapped-stores";let items ← unpackItems (.ref s1.heap.objs.size) 2 none;assignInOrder [fun v=>bindName X.env y v,fun v=>bindName X.env x v] items.reverse;pure Flow.next) _ _ _
 refine wpAny_bind (wpAny_rule (wpAny_bind (unpackItems_tuple (items:=#[u1,u2]) (I.ok.hd hc) (IsTup.new s1.heap _) fun h' hx'=>?_)))
 have I3:=I2.kept (h':=h') (t':=s1.toks) fun b o e=>hx' b o (Nat.ne_of_lt (Heap.lt_size e)) e
 show wpAny _ _ (assignInOrder [fun v=>bindName X.env y v,fun v=>bindName X.env x v] [u2,u1] >>= fun _=>pure Flow.next) _ _ _
 refine wpAny_bind (assignInOrder_cons (wpAny_bindName (zBx I3 hN hj (.inl hy) rw' (fun s2 I4=>?_) (.inr hy))))
 refine assignInOrder_cons (wpAny_bindName (zBx I4 hN hi (.inl hx) rv (fun s3 I5=>assignInOrder_nil (wpAny_pure ?_)) (.inr hx)))
 rw[List.set_comm _ _ (Ne.symm hij)] at I5
 exact⟨_,H1,I5,q1⟩
end
section
variable {X:Cx}{pos:Pos}
def tWhile (c:TT)(tb:TS):TS:=fun D σ H=>∃ W:Nat→St→Hp→Prop,(∃ m,W m σ H)∧∀ m σ H,W m σ H →
 c σ H fun b H1=>if b=true then ∃ N:St→Hp→Prop,(∀ σ' H',N σ' H'→∃ m',m' < m∧W m' σ' H')∧tb { D with nx:=N,ct:=N,bk:=D.nx } σ H1 else D.nx σ H1
theorem jY {c:Expr}{body:List Stmt}{tc:TT}{tb:TS}(hp:PassesOwn (model X.prog X.w) X.A X.env X.xe)(hc:PT X c tc)(hb:PSs X body tb):PS X (.While c body [] pos) (tWhile tc tb):=by
 intro pins s σ H D I h
 obtain⟨W,⟨m0,w0⟩,turn⟩:=h
 refine wpAny_While (codeAny_whileLoop (fun n s'=>∃ σ' H',Inv X pins σ' H' s'∧W n σ' H') ?_ m0 ⟨σ,H,I,w0⟩)
 rintro n s1 ⟨σ1,H1,I1,w1⟩
 refine wpAny_passesOwn hp (thn (hc pins s1 σ1 H1 _ I1 (turn n σ1 H1 w1)) fun b s2 ⟨H2,I2,q2⟩=>?_)
 cases b with
 | true =>
  obtain⟨N,hN,q2⟩:=q2
  rw[if_pos rfl]
  refine wpAny_passesOwn hp (thn (hb pins s2 σ1 H2 _ I2 q2) fun f s3 q3=>?_)
  cases f with
  | next =>
   obtain⟨σ3,H3,I3,n3⟩:=q3
   obtain⟨m',hm,w3⟩:=hN σ3 H3 n3
   exact⟨m',hm,σ3,H3,I3,w3⟩
  | cont =>
   obtain⟨σ3,H3,I3,n3⟩:=q3
   obtain⟨m',hm,w3⟩:=hN σ3 H3 n3
   exact⟨m',hm,σ3,H3,I3,w3⟩
  | brk=>exact q3
  | ret v=>exact q3
 | false =>
  rw[if_neg Bool.false_ne_true]
  exact wpAny_execs_nil ⟨σ1,H2,I2,q2⟩
end
structure It where
 go:Nat→Hp→Prop
 yld:Nat→Hp→V→Hp→Prop
 stop:Nat→Hp→Prop
def FpOk (X:Cx)(pins:List (Addr×Obj))(H:Hp)(b:Addr):Prop :=
 H b=none∧b≠X.env.locals∧b∉X.fs∧(b∈X.ex∨X.s₀.heap.objs.size≤b)∧(∀ x c,X.env.cells.lookup x=some c→c≠b)∧∀ p∈X.pn ++ pins,p.1≠b
theorem Inv.fpOk {X:Cx}{pins:List (Addr×Obj)}{σ:St}{H H':Hp}{s:Shared}{b:Addr}(I:Inv X pins σ H s)(hb:s.heap.objs.size≤b)(hn:H' b=none):FpOk X pins H' b:=by
 refine⟨hn,Nat.ne_of_gt (Nat.lt_of_lt_of_le I.lt hb),I.nofs hb,.inr (Nat.le_trans I.sz hb),fun x c e z=>?_,fun p hp z=>?_⟩
 ·obtain⟨v,q⟩:=I.cell x c e
  exact absurd (Nat.lt_of_lt_of_le q.lt (by rw[z];exact hb)) (Nat.lt_irrefl _)
 ·exact absurd (Nat.lt_of_lt_of_le (Heap.lt_size (I.pin p hp).1) (by rw[z];exact hb)) (Nat.lt_irrefl _)
structure Turn (P:Program)(w:World)(K:PySem.W.Frag)(tg:Expr)(J:It)(fp:List Addr)(it:Addr)(tn:Nat→Heap→Prop):Prop where
 mem:it∈fp
 obj:∀ i h,tn i h→∀ b∈fp,∃ o,h.get? b=some o∧∀ v,o.data≠.cell v
 keep:∀ i h h',tn i h→(∀ b∈fp,∀ o,h.get? b=some o→h'.get? b=some o)→tn i h'
 item:∀ (X:Cx),X.prog=P→X.w=w→X.K=K→X.calm=true→∀ (i:Nat)(pins:List (Addr×Obj))(s:Shared)(σ:St)(H:Hp)(E:Value→Shared→Prop),Inv X pins σ H s→(∀ b∈fp,FpOk X pins H b)→tn i s.heap→J.go i H →
  wpAny (model P w) X.A (pyNext (.ref it)) (fun r s1=>∃ u,r=some u ∧
   wpAny (model P w) X.A (letOwnedTupleGo tg (.ref it) u) (fun _ s2=>∃ x H',Inv X pins σ H' s2∧RelV x u∧J.yld i H x H'∧tn (i+1) s2.heap∧∀ b∈fp,H' b=none) E s1) E s
 done:∀ (X:Cx),X.prog=P→X.w=w→X.K=K→X.calm=true→∀ (i:Nat)(pins:List (Addr×Obj))(s:Shared)(σ:St)(H:Hp)(E:Value→Shared→Prop),Inv X pins σ H s→(∀ b∈fp,FpOk X pins H b)→tn i s.heap→J.stop i H →
  wpAny (model P w) X.A (pyNext (.ref it)) (fun r s1=>r=none∧Inv X pins σ H s1) E s
 self:∀ (A:Around)(i:Nat)(s:Shared)(Q:Value→Shared→Prop)(E:Value→Shared→Prop),tn i s.heap→Q (.ref it) s→wpAny (model P w) A (pyIter (.ref it)) Q E s
abbrev TI:=St→Hp→(It→Hp→Prop)→Prop
def PIE (X:Cx)(pins:List (Addr×Obj))(σ:St)(tg:Expr)(R:It→Hp→Prop)(itv:Value)(s2:Shared):Prop :=
 ∃ (it:Addr)(fp:List Addr)(tn:Nat→Heap→Prop)(J:It)(H':Hp),itv=.ref it∧Inv X pins σ H' s2∧Turn X.prog X.w X.K tg J fp it tn∧tn 0 s2.heap∧(∀ b∈fp,FpOk X pins H' b)∧R J H'
def PI (X:Cx)(tg iter:Expr)(wi:TI):Prop :=
 ∀ (pins:List (Addr×Obj))(s:Shared)(σ:St)(H:Hp)(R:It→Hp→Prop),Inv X pins σ H s→wi σ H R →
  wpAny (model X.prog X.w) X.A (eval iter X.env) (fun v s1=>wpAny (model X.prog X.w) X.A (pyIter v) (PIE X pins σ tg R) X.xe s1) X.xe s
theorem go_of {M:Model}{A:Around}{E:Value→Shared→Prop}{s:Shared}{tg:Expr}{it:Addr}{u:Value}{o:Obj}{n:String}{vs:Array Value}{Q:Unit→Shared→Prop}(ho:s.heap.get? it=some o)(hc:o.cls=.type n)(hd:o.data=.fields vs)
    (hn:["enumerate","zip","dict_itemiterator","dict_reverseitemiterator","odict_iterator","itertools.zip_longest","itertools.pairwise"].contains n=false)(hQ:Q () s):wpAny M A (letOwnedTupleGo tg (.ref it) u) Q E s:=by
  unfold letOwnedTupleGo
  cases tg <;> first
    | exact wpAny_pure hQ
    | (cases u <;> first
        | exact wpAny_pure hQ
        | (refine wpAny_bind (wpAny_load ho ?_)
           rw[hc,hd]
           show wpAny M A (if (["enumerate","zip","dict_itemiterator","dict_reverseitemiterator","odict_iterator","itertools.zip_longest","itertools.pairwise"].contains n && vs[0]? == some (rawInt _))=true then _ else _) Q E s
           rw[if_neg (by intro h;rw[hn,Bool.false_and] at h;cases h)]
           exact wpAny_pure hQ))
def Itl (K:PySem.W.Frag)(a:Addr):It :=
 ⟨fun i H=>∃ xs x,SqL K H a xs∧xs[i]?=some x,fun i H x H'=>H'=H∧∀ xs,SqL K H a xs→xs[i]?=some x,fun i H=>∃ xs,SqL K H a xs∧xs.length≤i⟩
def Itt (K:PySem.W.Frag)(a:Addr):It :=
 ⟨fun i H=>∃ xs x,SqT K H a xs∧xs[i]?=some x,fun i H x H'=>H'=H∧∀ xs,SqT K H a xs→xs[i]?=some x,fun i H=>∃ xs,SqT K H a xs∧xs.length≤i⟩
def Itr (lo:Int)(n:Nat):It:=⟨fun i _=>i < n,fun i H x H'=>H'=H∧x=.int (lo+i),fun i _=>n≤i⟩
theorem turn_list {P:Program}{w:World}{K:PySem.W.Frag}{tg:Expr}(a it:Addr):Turn P w K tg (Itl K a) [it] it (fun i h=>h.IsListIter it a i) where
 mem:=by simp
 obj:=fun i h st b hb=>by
  have e:b=it:=by simpa using hb
  subst e
  obtain⟨o,e,c,d⟩:=st
  exact⟨o,e,fun v z=>by rw[d] at z;cases z⟩
 keep:=fun i h h' st k=>st.at fun o e=>k it (by simp) o e
 item:=by
  intro X hP hw hK hc i pins s σ H E I hf st hg
  subst hP hw hK
  obtain⟨xs,x,hq,hx⟩:=hg
  obtain⟨its,rv,p,hz⟩:=I.list hq
  obtain⟨u,hu,ru⟩:=rv.get hx
  obtain⟨f0,f1,f2,f3,f4,f5⟩:=hf it (by simp)
  refine wpAny_pyNext_list_item st p.isList (x:=u) (by simpa using hu) fun h' st' sb=>?_
  have I1:Inv X pins σ H { s with heap:=h' }:=I.turned (t':=s.toks) (fun b o hb e=>(sb.2 b hb).trans e) f0 f1 f3 f4 f5
  obtain⟨o,e,c,d⟩:=id st'
  exact⟨u,rfl,go_of (s:={ s with heap:=h' }) e c d (by decide) ⟨x,H,I1,ru,⟨rfl,fun ys hy=>by rw[I.zDk hy hq];exact hx⟩,st',fun b hb=>(hf b hb).1⟩⟩
 done:=by
  intro X hP hw hK hc i pins s σ H E I hf st hg
  subst hP hw hK
  obtain⟨xs,hq,hx⟩:=hg
  obtain⟨its,rv,p,hz⟩:=I.list hq
  obtain⟨f0,f1,f2,f3,f4,f5⟩:=hf it (by simp)
  have hl:=rv.length
  exact wpAny_pyNext_list_end (I.ok.hd hc) st p.isList (by simp;omega) fun h' eb=>⟨rfl,I.turned (t':=s.toks) (fun b o hb e=>eb b o hb e) f0 f1 f3 f4 f5⟩
 self:=fun _ _ _ _ _ st h=>wpAny_pyIter_listiter st h
theorem turn_tuple {P:Program}{w:World}{K:PySem.W.Frag}{tg:Expr}(a it:Addr):Turn P w K tg (Itt K a) [it] it (fun i h=>h.IsTupleIter it a i) where
 mem:=by simp
 obj:=fun i h st b hb=>by
  have e:b=it:=by simpa using hb
  subst e
  obtain⟨o,e,c,d⟩:=st
  exact⟨o,e,fun v z=>by rw[d] at z;cases z⟩
 keep:=fun i h h' st k=>st.at fun o e=>k it (by simp) o e
 item:=by
  intro X hP hw hK hc i pins s σ H E I hf st hg
  subst hP hw hK
  obtain⟨xs,x,hq,hx⟩:=hg
  obtain⟨its,rv,p,hz⟩:=I.tuple hq
  obtain⟨u,hu,ru⟩:=rv.get hx
  obtain⟨f0,f1,f2,f3,f4,f5⟩:=hf it (by simp)
  refine wpAny_pyNext_tuple_item st (show s.heap.IsTuple a its.toArray from p) (x:=u) (by simpa using hu) fun h' st' sb=>?_
  have I1:Inv X pins σ H { s with heap:=h' }:=I.turned (t':=s.toks) (fun b o hb e=>(sb.2 b hb).trans e) f0 f1 f3 f4 f5
  obtain⟨o,e,c,d⟩:=id st'
  exact⟨u,rfl,go_of (s:={ s with heap:=h' }) e c d (by decide) ⟨x,H,I1,ru,⟨rfl,fun ys hy=>by rw[I.tuple_inj hy hq];exact hx⟩,st',fun b hb=>(hf b hb).1⟩⟩
 done:=by
  intro X hP hw hK hc i pins s σ H E I hf st hg
  subst hP hw hK
  obtain⟨xs,hq,hx⟩:=hg
  obtain⟨its,rv,p,hz⟩:=I.tuple hq
  obtain⟨f0,f1,f2,f3,f4,f5⟩:=hf it (by simp)
  have hl:=rv.length
  exact wpAny_pyNext_tuple_end (I.ok.hd hc) st (show s.heap.IsTuple a its.toArray from p) (by simp;omega) fun h' eb=>⟨rfl,I.turned (t':=s.toks) (fun b o hb e=>eb b o hb e) f0 f1 f3 f4 f5⟩
 self:=fun _ _ _ _ _ st h=>wpAny_pyIter_tupleiter st h
theorem turn_range {P:Program}{w:World}{K:PySem.W.Frag}{tg:Expr}(it:Addr)(lo:Int)(n:Nat):Turn P w K tg (Itr lo n) [it] it (fun i h=>IsRangeIter h it (lo+(i:Nat)*1) ((n:Int)-(i:Nat)) 1) where
 mem:=by simp
 obj:=fun i h st b hb=>by
  have e:b=it:=by simpa using hb
  subst e
  exact⟨_,st,fun v z=>by
   have z':Data.fields _=Data.cell v:=z
   cases z'⟩
 keep:=fun i h h' st k=>k it (by simp) _ st
 item:=by
  intro X hP hw hK hc i pins s σ H E I hf st hg
  subst hP hw hK
  obtain⟨f0,f1,f2,f3,f4,f5⟩:=hf it (by simp)
  have W:=Walks.range (prog:=X.prog) (w:=X.w) (I.ok.hd hc) it lo 1 n
  refine W.item i s _ _ hg st fun v h' tk hv st' kk=>?_
  obtain⟨t,rfl⟩:=hv
  have I1:Inv X pins σ H { s with heap:=h',toks:=tk }:=I.turned (fun b o hb e=>kk b o (by simpa using hb) e) f0 f1 f3 f4 f5
  refine⟨_,rfl,go_of (s:={ s with heap:=h',toks:=tk }) (n:="range_iterator") st' rfl rfl (by decide) ⟨.int (lo+i),H,I1,⟨t,?_⟩,⟨rfl,rfl⟩,st',fun b hb=>(hf b hb).1⟩⟩
  rw[Int.mul_one]
 done:=by
  intro X hP hw hK hc i pins s σ H E I hf st hg
  subst hP hw hK
  obtain⟨f0,f1,f2,f3,f4,f5⟩:=hf it (by simp)
  exact wpAny_pyNext_range_end (I.ok.hd hc) st (by have:n≤i:=hg;omega) fun h' eb=>⟨rfl,I.turned (t':=s.toks) (fun b o hb e=>eb b o hb e) f0 f1 f3 f4 f5⟩
 self:=fun _ _ _ _ _ st h=>wpAny_pyIter_rangeiter st h
end L2
namespace L2
open PySem PySem.Spec PyProof.Rows
section
variable {X:Cx}{tg:Expr}
def iList (K:PySem.W.Frag)(tl:TE):TI:=fun σ H R=>tl σ H fun x H1=>∃ a,x=.ref a∧(∃ xs,SqL K H1 a xs)∧R (Itl K a) H1
def iTup (K:PySem.W.Frag)(tl:TE):TI:=fun σ H R=>tl σ H fun x H1=>∃ a,x=.ref a∧(∃ xs,SqT K H1 a xs)∧R (Itt K a) H1
theorem jP {l:Expr}{tl:TE}(hl:PE X l tl):PI X tg l (iList X.K tl):=by
 intro pins s σ H R I h
 refine thn (hl pins s σ H _ I h) fun v s1 ⟨x,H1,I1,r1,q1⟩=>?_
 obtain⟨a,e,⟨xs,hq⟩,q⟩:=q1
 subst e
 cases r1
 obtain⟨its,rv,p,hz⟩:=I1.list hq
 refine wpAny_pyIter_list p.isList ?_
 refine⟨s1.heap.objs.size,[s1.heap.objs.size],_,_,H1,rfl,I1.kept (t':=s1.toks) fun b o e=>Heap.get?_push_of_some _ e,turn_list a _,⟨_,Heap.get?_push_size _ rfl,rfl,rfl⟩,fun b hb=>?_,q⟩
 have e:b=s1.heap.objs.size:=by simpa using hb
 subst e
 exact I1.fpOk (Nat.le_refl _) (I1.hok.fresh (Nat.le_refl _))
theorem pi_tup {l:Expr}{tl:TE}(hl:PE X l tl):PI X tg l (iTup X.K tl):=by
 intro pins s σ H R I h
 refine thn (hl pins s σ H _ I h) fun v s1 ⟨x,H1,I1,r1,q1⟩=>?_
 obtain⟨a,e,⟨xs,hq⟩,q⟩:=q1
 subst e
 cases r1
 obtain⟨its,rv,p,hz⟩:=I1.tuple hq
 refine wpAny_pyIter_tuple (show s1.heap.IsTuple a its.toArray from p) ?_
 refine⟨s1.heap.objs.size,[s1.heap.objs.size],_,_,H1,rfl,I1.kept (t':=s1.toks) fun b o e=>Heap.get?_push_of_some _ e,turn_tuple a _,⟨_,Heap.get?_push_size _ rfl,rfl,rfl⟩,fun b hb=>?_,q⟩
 have e:b=s1.heap.objs.size:=by simpa using hb
 subst e
 exact I1.fpOk (Nat.le_refl _) (I1.hok.fresh (Nat.le_refl _))
theorem range_it {pins:List (Addr×Obj)}{σ:St}{H:Hp}{s:Shared}{R:It→Hp→Prop}{E:Value→Shared→Prop}{lo hi:Int}{t u v:Tok}{tk:Nat}(I:Inv X pins σ H s)(h1:-(2^62)≤lo)(h2:lo < 2^62)(h3:-(2^62)≤hi)(h4:hi < 2^62)
  (q:R (Itr lo (hi-lo).toNat) H):wpAny (model X.prog X.w) X.A (pyIter (.ref s.heap.objs.size)) (PIE X pins σ tg R) E { s with heap:=s.heap.push { cls:=.type "range",data:=.fields #[.int lo t,.int hi u,.int 1 v] },toks:=tk }:=by
 refine wpAny_pyIter_range (IsRange.new ..) (small_one h1 h2 h3 h4) ?_
 have I1:Inv X pins σ H { s with heap:=s.heap.push { cls:=.type "range",data:=.fields #[.int lo t,.int hi u,.int 1 v] },toks:=tk }:=I.kept fun b o e=>Heap.get?_push_of_some _ e
 refine⟨(s.heap.push { cls:=.type "range",data:=.fields #[.int lo t,.int hi u,.int 1 v] }).objs.size,[(s.heap.push { cls:=.type "range",data:=.fields #[.int lo t,.int hi u,.int 1 v] }).objs.size],_,_,H,rfl,
  I1.kept (t':=tk) fun b o e=>Heap.get?_push_of_some _ e,turn_range _ lo (hi-lo).toNat,?_,fun b hb=>?_,q⟩
 ·have e1:lo+((0:Nat):Int)*1=lo:=by simp
  have e2:(((hi-lo).toNat:Nat):Int)-((0:Nat):Int)=Builtin.Range.rangeSize lo hi 1:=by rw[rangeSize_one];split <;> omega
  show IsRangeIter _ _ (lo+((0:Nat):Int)*1) ((((hi-lo).toNat:Nat):Int)-((0:Nat):Int)) 1
  rw[e1,e2]
  exact Heap.get?_push_size _ rfl
 ·have e:b=(s.heap.push { cls:=.type "range",data:=.fields #[.int lo t,.int hi u,.int 1 v] }).objs.size:=by simpa using hb
  subst e
  exact I1.fpOk (Nat.le_refl _) (I1.hok.fresh (Nat.le_refl _))
def iRng1 (ta:TA):TI:=fun σ H R=>ta σ H fun vs H1=>∃ j:Int,vs=[.int j]∧-(2^62)≤j∧j < 2^62∧R (Itr 0 j.toNat) H1
def iRng2 (ta:TA):TI:=fun σ H R=>ta σ H fun vs H1=>∃ i j:Int,vs=[.int i,.int j]∧(-(2^62)≤i∧i < 2^62∧-(2^62)≤j∧j < 2^62)∧R (Itr i (j-i).toNat) H1
theorem zBo {a:Expr}{ta:TA}{p pos:Pos}(hg:Gl X "range")(hm:X.mg "range"=none)(ha:PA X [a] ta)(hs:starEach [a] X.env=[(false,eval a X.env)]:=by rfl):PI X tg (.Call (.Name "range" p) [a] [] pos) (iRng1 ta):=by
 intro pins s σ H R I h
 refine Call_ (zAq I hg hm boot_range (PyProof.Rows.callWith_type1 (thn (ha pos pins s σ H _ I h) fun us s1 ⟨vs,H1,I1,r1,q1⟩=>?_) hs rfl))
 obtain⟨j,e,q1,q2,q⟩:=q1
 subst e
 cases r1 with
 | cons r rr =>
  cases rr
  obtain⟨t,rfl⟩:=r
  exact call_range_1 (range_it I1 (by omega) (by omega) q1 q2 (by simpa using q))
theorem pi_range2 {a b:Expr}{ta:TA}{p pos:Pos}(hg:Gl X "range")(hm:X.mg "range"=none)(ha:PA X [a,b] ta)(hs:starEach [a,b] X.env=[(false,eval a X.env),(false,eval b X.env)]:=by rfl)(hs2:starEach [b] X.env=[(false,eval b X.env)]:=by rfl) :
  PI X tg (.Call (.Name "range" p) [a,b] [] pos) (iRng2 ta):=by
 intro pins s σ H R I h
 refine Call_ (zAq I hg hm boot_range (PyProof.Rows.callWith_type1 (thn (ha pos pins s σ H _ I h) fun us s1 ⟨vs,H1,I1,r1,q1⟩=>?_) (by rw[hs,hs2]) (by rw[hs2];rfl)))
 obtain⟨i,j,e,⟨q1,q2,q3,q4⟩,q⟩:=q1
 subst e
 cases r1 with
 | cons r rr =>
  cases rr with
  | cons r' rr =>
   cases rr
   obtain⟨t,rfl⟩:=r
   obtain⟨t',rfl⟩:=r'
   exact call_range_2 (range_it I1 q1 q2 q3 q4 q)
def tFor (wi:TI)(g:TG)(tb:TS):TS:=fun D σ H=>wi σ H fun J H1=>∃ W:Nat→Nat→St→Hp→Prop,(∃ m,W 0 m σ H1)∧∀ i m σ H,W i m σ H →
 (J.stop i H∧D.nx σ H)∨(J.go i H∧∃ N:St→Hp→Prop,(∀ σ' H',N σ' H'→∃ m',m' < m∧W (i+1) m' σ' H')∧∀ x H',J.yld i H x H'→g x σ H' fun σ2 H2=>tb { D with nx:=N,ct:=N,bk:=D.nx } σ2 H2)
def pinsAt (fp:List Addr)(h:Heap):List (Addr×Obj):=fp.filterMap fun b=>(h.get? b).map fun o=>(b,o)
theorem zCk {fp:List Addr}{h:Heap}{b:Addr}{o:Obj}(hb:b∈fp)(e:h.get? b=some o):(b,o)∈pinsAt fp h:=List.mem_filterMap.mpr ⟨b,hb,by rw[e];rfl⟩
theorem of_pinsAt {fp:List Addr}{h:Heap}{p:Addr×Obj}(hp:p∈pinsAt fp h):p.1∈fp∧h.get? p.1=some p.2:=by
 obtain⟨b,hb,e⟩:=List.mem_filterMap.mp hp
 cases q:h.get? b with
 | none=>rw[q] at e;cases e
 | some o =>
  rw[q] at e
  have e':(b,o)=p:=Option.some.inj e
  subst e'
  exact⟨hb,q⟩
theorem Inv.pinned {pins:List (Addr×Obj)}{σ:St}{H:Hp}{s:Shared}{fp:List Addr}(I:Inv X pins σ H s)(hf:∀ b∈fp,FpOk X pins H b)(ho:∀ b∈fp,∃ o,s.heap.get? b=some o∧∀ v,o.data≠.cell v):Inv X (pins ++ pinsAt fp s.heap) σ H s :=
 I.zBh fun p hp=>(List.mem_append.mp hp).elim (fun z=>I.pin p (List.mem_append_right _ z)) fun z=>by
  obtain⟨hb,e⟩:=of_pinsAt z
  obtain⟨f0,f1,f2,_⟩:=hf p.1 hb
  obtain⟨o,e',d⟩:=ho p.1 hb
  rw[e] at e';cases e'
  exact⟨e,f0,f1,f2,d⟩
theorem Inv.unpinned {pins pl:List (Addr×Obj)}{σ:St}{H:Hp}{s:Shared}(I:Inv X (pins ++ pl) σ H s):Inv X pins σ H s:=I.zBh fun p hp=>I.pin p (List.mem_append_right _ (List.mem_append_left _ hp))
theorem j7 {iter:Expr}{body:List Stmt}{wi:TI}{g:TG}{tb:TS}{pos:Pos}(hp:PassesOwn (model X.prog X.w) X.A X.env X.xe)(hc:X.calm=true)(hi:PI X tg iter wi)(hg:PG X tg g)(hb:PSs X body tb)
  (hs:∀ x,foldedSetIterable iter X.env x=pure x:=by intro _;rfl):PS X (.For tg iter body [] pos) (tFor wi g tb):=by
 intro pins s σ H D I h
 refine wpAny_For (thn (hi pins s σ H _ I h) fun v s1 h1=>thn h1 fun itv s2 h2=>?_) hs
 obtain⟨it,fp,tn,J,H2,e,I2,T,st2,f2,W,⟨m0,w0⟩,turn⟩:=h2
 subst e
 -- what stays true of the iterator's objects through the loop
 have stat:∀ {H':Hp},(∀ b∈fp,H' b=none)→∀ b∈fp,FpOk X pins H' b:=fun hn b hb=>⟨hn b hb,(f2 b hb).2⟩
 refine codeAny_forLoop_any (fun n s'=>∃ i σ' H',Inv X pins σ' H' s'∧tn i s'.heap∧(∀ b∈fp,H' b=none)∧W i n σ' H') ?_ m0 ⟨0,σ,H2,I2,st2,fun b hb=>(f2 b hb).1,w0⟩
 rintro n s3 ⟨i,σ3,H3,I3,st3,fr3,w3⟩
 rcases turn i n σ3 H3 w3 with ⟨stop,qn⟩ | ⟨go,N,hN,step⟩
 ·refine wpAny_passesOwn hp (thn (T.done X rfl rfl rfl hc i pins s3 σ3 H3 X.xe I3 (stat fr3) st3 stop) fun r s4 ⟨hr,I4⟩=>?_)
  subst hr
  exact wpAny_execs_nil ⟨σ3,H3,I4,qn⟩
 ·refine wpAny_passesOwn hp (thn (T.item X rfl rfl rfl hc i pins s3 σ3 H3 X.xe I3 (stat fr3) st3 go) fun r s4 ⟨u,hr,h4⟩=>?_)
  subst hr
  refine wpAny_passesOwn hp (thn h4 fun _ s5 ⟨x,H5,I5,r5,y5,st5,fr5⟩=>?_)
  have I5':=I5.pinned (stat fr5) (T.obj _ _ st5)
  refine wpAny_passesOwn hp (thn (hg _ s5 σ3 H5 x u _ I5' r5 (step x H5 y5)) fun _ s6 ⟨σ6,H6,I6,q6⟩=>?_)
  refine wpAny_passesOwn hp (thn (hb _ s6 σ6 H6 _ I6 q6) fun f s7 q7=>?_)
  have again:∀ {σ7:St}{H7:Hp},Inv X (pins ++ pinsAt fp s5.heap) σ7 H7 s7→N σ7 H7→∃ m,m < n∧∃ i σ' H',Inv X pins σ' H' s7∧tn i s7.heap∧(∀ b∈fp,H' b=none)∧W i m σ' H':=fun {σ7 H7} I7 n7=>by
   obtain⟨m',hm,w7⟩:=hN σ7 H7 n7
   refine⟨m',hm,i+1,σ7,H7,I7.unpinned,T.keep _ _ _ st5 fun b hb o e=>(I7.pin (b,o) (List.mem_append_right _ (List.mem_append_right _ (zCk hb e)))).1,fun b hb=>?_,w7⟩
   obtain⟨o,e,d⟩:=T.obj _ _ st5 b hb
   exact (I7.pin (b,o) (List.mem_append_right _ (List.mem_append_right _ (zCk hb e)))).2.1
  cases f with
  | next=>obtain⟨σ7,H7,I7,n7⟩:=q7;exact again I7 n7
  | cont=>obtain⟨σ7,H7,I7,n7⟩:=q7;exact again I7 n7
  | brk=>obtain⟨σ7,H7,I7,q7⟩:=q7;exact⟨σ7,H7,I7.unpinned,q7⟩
  | ret v=>obtain⟨x7,σ7,H7,I7,r7,q7⟩:=q7;exact⟨x7,σ7,H7,I7.unpinned,r7,q7⟩
end
theorem zAg {K:PySem.W.Frag}{a:Addr}{xs:List V}{g:TG}{tb:TS}{D:Ends}{σ:St}{H:Hp}(Pv:Nat→St→Hp→Prop)(h0:Pv 0 σ H)(hl:∀ i σ H,i≤xs.length→Pv i σ H→SqL K H a xs)
  (hs:∀ i x σ H,xs[i]?=some x→Pv i σ H→g x σ H fun σ2 H2=>tb { D with nx:=Pv (i+1),ct:=Pv (i+1),bk:=D.nx } σ2 H2)(hd:∀ σ H,Pv xs.length σ H→D.nx σ H) :
  ∃ W:Nat→Nat→St→Hp→Prop,(∃ m,W 0 m σ H)∧∀ i m σ H,W i m σ H →
   ((Itl K a).stop i H∧D.nx σ H)∨((Itl K a).go i H∧∃ N:St→Hp→Prop,(∀ σ' H',N σ' H'→∃ m',m' < m∧W (i+1) m' σ' H')∧∀ x H',(Itl K a).yld i H x H'→g x σ H' fun σ2 H2=>tb { D with nx:=N,ct:=N,bk:=D.nx } σ2 H2):=by
 refine⟨fun i m σ H=>m=xs.length-i∧i≤xs.length∧Pv i σ H,⟨xs.length,by simp,Nat.zero_le _,h0⟩,?_⟩
 rintro i m σ H ⟨rfl,hi,p⟩
 have q:=hl i σ H hi p
 by_cases hlt:i < xs.length
 ·refine .inr ⟨⟨xs,xs[i],q,by simp [hlt]⟩,Pv (i+1),fun σ' H' p'=>⟨xs.length-(i+1),by omega,rfl,hlt,p'⟩,fun x H' y=>?_⟩
  obtain⟨e,y⟩:=y
  subst e
  exact hs i x σ _ (y xs q) p
 ·have e:i=xs.length:=by omega
  subst e
  exact .inl ⟨⟨xs,q,Nat.le_refl _⟩,hd σ H p⟩
theorem for_range {lo:Int}{n:Nat}{g:TG}{tb:TS}{D:Ends}{σ:St}{H:Hp}(Pv:Nat→St→Hp→Prop)(h0:Pv 0 σ H)
  (hs:∀ i σ H,i < n→Pv i σ H→g (.int (lo+i)) σ H fun σ2 H2=>tb { D with nx:=Pv (i+1),ct:=Pv (i+1),bk:=D.nx } σ2 H2)(hd:∀ σ H,Pv n σ H→D.nx σ H) :
  ∃ W:Nat→Nat→St→Hp→Prop,(∃ m,W 0 m σ H)∧∀ i m σ H,W i m σ H →
   ((Itr lo n).stop i H∧D.nx σ H)∨((Itr lo n).go i H∧∃ N:St→Hp→Prop,(∀ σ' H',N σ' H'→∃ m',m' < m∧W (i+1) m' σ' H')∧∀ x H',(Itr lo n).yld i H x H'→g x σ H' fun σ2 H2=>tb { D with nx:=N,ct:=N,bk:=D.nx } σ2 H2):=by
 refine⟨fun i m σ H=>m=n-i∧i≤n∧Pv i σ H,⟨n,by simp,Nat.zero_le _,h0⟩,?_⟩
 rintro i m σ H ⟨rfl,hi,p⟩
 by_cases hlt:i < n
 ·refine .inr ⟨hlt,Pv (i+1),fun σ' H' p'=>⟨n-(i+1),by omega,rfl,hlt,p'⟩,fun x H' y=>?_⟩
  obtain⟨e,y⟩:=y
  subst e y
  exact hs i σ _ hlt p
 ·have e:i=n:=by omega
  subst e
  exact .inl ⟨Nat.le_refl _,hd σ H p⟩
end L2
namespace L2
open PySem PySem.Spec PyProof.Rows
abbrev R2:=V→V→Hp→VK→Prop
def OpR (X:Cx)(f:Value→Value→Sem Value)(r:R2):Prop :=
 ∀ (pins:List (Addr×Obj))(s:Shared)(σ:St)(H:Hp)(x y:V)(v u:Value)(Q:VK),Inv X pins σ H s→RelV x v→RelV y u→r x y H Q →
  wpAny (model X.prog X.w) X.A (f v u) (EP X pins σ Q) X.xe s
def UnR (X:Cx)(f:Value→Sem Value)(r:V→Hp→VK→Prop):Prop :=
 ∀ (pins:List (Addr×Obj))(s:Shared)(σ:St)(H:Hp)(x:V)(v:Value)(Q:VK),Inv X pins σ H s→RelV x v→r x H Q →
  wpAny (model X.prog X.w) X.A (f v) (EP X pins σ Q) X.xe s
def j4 (X:Cx)(f:Value)(r:List V→Hp→VK→Prop):Prop :=
 ∀ (pins:List (Addr×Obj))(s:Shared)(σ:St)(H:Hp)(xs:List V)(us:List Value)(Q:VK),Inv X pins σ H s→Vals xs us→r xs H Q →
  wpAny (model X.prog X.w) X.A (call f us) (EP X pins σ Q) X.xe s
def tOp (r:R2)(ta tb:TE):TE:=fun σ H Q=>ta σ H fun x H1=>tb σ H1 fun y H2=>r x y H2 Q
def tUn (r:V→Hp→VK→Prop)(ta:TE):TE:=fun σ H Q=>ta σ H fun x H1=>r x H1 Q
def rI (C:Int→Int→Prop)(g:Int→Int→V):R2:=fun x y H Q=>∃ i j,x=.int i∧y=.int j∧C i j∧Q (g i j) H
def rI0 (g:Int→Int→V):R2:=fun x y H Q=>∃ i j,x=.int i∧y=.int j∧Q (g i j) H
def rU (g:Int→V):V→Hp→VK→Prop:=fun x H Q=>∃ i,x=.int i∧Q (g i) H
section
variable {X:Cx}{a b c:Expr}{ta tb tc:TE}{pos:Pos}
theorem binT (ha:PE X a ta)(hb:PE X b tb){pins:List (Addr×Obj)}{s:Shared}{σ:St}{H:Hp}{R:V→V→Hp→Prop}(I:Inv X pins σ H s)
  (h:ta σ H fun x H1=>tb σ H1 fun y H2=>R x y H2){Q:Value→Shared→Prop}{f:Value→Value→Sem Value}
  (hf:∀ v u s2 x y H2,Inv X pins σ H2 s2→RelV x v→RelV y u→R x y H2→wpAny (model X.prog X.w) X.A (f v u) Q X.xe s2) :
  wpAny (model X.prog X.w) X.A (eval a X.env) (fun v s₁=>wpAny (model X.prog X.w) X.A (eval b X.env) (fun u s₂=>wpAny (model X.prog X.w) X.A (f v u) Q X.xe s₂) X.xe s₁) X.xe s:=by
 refine thn (ha pins s σ H _ I h) fun v s1 ⟨x,H1,I1,r1,q1⟩=>?_
 refine thn (hb pins s1 σ H1 _ I1 q1) fun u s2 ⟨y,H2,I2,r2,q2⟩=>?_
 exact hf v u s2 x y H2 I2 r1 r2 q2
theorem zO {op:Operator}{r:R2}(ho:OpR X (binaryOp op) r)(ha:PE X a ta)(hb:PE X b tb):PE X (.BinOp a op b pos) (tOp r ta tb):=by
 intro pins s σ H Q I h
 exact wpAny_BinOp (binT ha hb I h fun v u s2 x y H2 I2 rx ry q=>ho pins s2 σ H2 x y v u Q I2 rx ry q)
theorem pe_un {op:UnaryOp}{r:V→Hp→VK→Prop}(ho:UnR X (unaryOp op) r)(ha:PE X a ta):PE X (.UnaryOp op a pos) (tUn r ta):=by
 intro pins s σ H Q I h
 exact UnaryOp_ (thn (ha pins s σ H _ I h) fun v s1 ⟨x,H1,I1,r1,q1⟩=>ho pins s1 σ H1 x v Q I1 r1 q1)
theorem opI {f:Value→Value→Sem Value}{C:Int→Int→Prop}{g:Int→Int→Int}
  (rule:∀ (i j:Int)(t u:Tok)(s:Shared)(Q:Value→Shared→Prop)(E:Value→Shared→Prop),C i j→Q (.int (g i j) s.toks) { s with toks:=s.toks+1 }→wpAny (model X.prog X.w) X.A (f (.int i t) (.int j u)) Q E s) :
  OpR X f (rI C fun i j=>.int (g i j)):=by
 intro pins s σ H x y v u Q I rx ry h
 obtain⟨i,j,rfl,rfl,hc,q⟩:=h
 obtain⟨t,rfl⟩:=rx
 obtain⟨t',rfl⟩:=ry
 exact rule i j t t' s _ _ hc ⟨.int (g i j),H,I.tok _,⟨_,rfl⟩,q⟩
theorem opI0 {f:Value→Value→Sem Value}{g:Int→Int→Int}
  (rule:∀ (i j:Int)(t u:Tok)(s:Shared)(Q:Value→Shared→Prop)(E:Value→Shared→Prop),Q (.int (g i j) s.toks) { s with toks:=s.toks+1 }→wpAny (model X.prog X.w) X.A (f (.int i t) (.int j u)) Q E s) :
  OpR X f (rI0 fun i j=>.int (g i j)):=by
 intro pins s σ H x y v u Q I rx ry h
 obtain⟨i,j,rfl,rfl,q⟩:=h
 obtain⟨t,rfl⟩:=rx
 obtain⟨t',rfl⟩:=ry
 exact rule i j t t' s _ _ ⟨.int (g i j),H,I.tok _,⟨_,rfl⟩,q⟩
theorem opB0 {f:Value→Value→Sem Value}{g:Int→Int→Bool}
  (rule:∀ (i j:Int)(t u:Tok)(s:Shared)(Q:Value→Shared→Prop)(E:Value→Shared→Prop),Q (.bool (g i j)) s→wpAny (model X.prog X.w) X.A (f (.int i t) (.int j u)) Q E s) :
  OpR X f (rI0 fun i j=>.bl (g i j)):=by
 intro pins s σ H x y v u Q I rx ry h
 obtain⟨i,j,rfl,rfl,q⟩:=h
 obtain⟨t,rfl⟩:=rx
 obtain⟨t',rfl⟩:=ry
 exact rule i j t t' s _ _ ⟨.bl (g i j),H,I,rfl,q⟩
def CPow (i j:Int):Prop:=0≤j∧j≤1000000∧i.natAbs < 2^64
def CMul (i j:Int):Prop:=(-(2^64) < i∧i < 2^64)∨(-(2^64) < j∧j < 2^64)
theorem CMul.ok {i j:Int}(h:CMul i j):IntMulOk i j:=by
 rcases h with ⟨h1,h2⟩ | ⟨h1,h2⟩
 ·exact .of_left (intBits_le_64 h1 h2)
 ·exact .of_right (intBits_le_64 h1 h2)
theorem wE:OpR X (binaryOp .Add) (rI0 fun i j=>.int (i+j)):=opI0 fun _ _ _ _ _ _ _ q=>add_int q
theorem op_sub:OpR X (binaryOp .Sub) (rI0 fun i j=>.int (i-j)):=opI0 fun _ _ _ _ _ _ _ q=>sub_int q
theorem vN:OpR X (binaryOp .Mod) (rI (fun _ j=>0 < j) fun i j=>.int (i%j)):=opI fun i j _ _ _ _ _ hc q=>by
 have h1:(0:Int) < j:=hc
 exact mod_int' (by omega) (by rw[Int.fmod_eq_emod_of_nonneg i (by omega)];exact q)
theorem op_pow:OpR X (binaryOp .Pow) (rI CPow fun i j=>.int (i^j.toNat)):=opI fun _ _ _ _ _ _ _ hc q=>pow_int_small hc.1 hc.2.1 hc.2.2 q
theorem unI {f:Value→Sem Value}{g:Int→Int}
  (rule:∀ (i:Int)(t:Tok)(s:Shared)(Q:Value→Shared→Prop)(E:Value→Shared→Prop),Q (.int (g i) s.toks) { s with toks:=s.toks+1 }→wpAny (model X.prog X.w) X.A (f (.int i t)) Q E s) :
  UnR X f (rU fun i=>.int (g i)):=by
 intro pins s σ H x v Q I rx h
 obtain⟨i,rfl,q⟩:=h
 obtain⟨t,rfl⟩:=rx
 exact rule i t s _ _ ⟨.int (g i),H,I.tok _,⟨_,rfl⟩,q⟩
theorem un_neg:UnR X (unaryOp .USub) (rU fun i=>.int (-i)):=unI fun _ _ _ _ _ q=>neg_int q
end
def scal:V→V→Bool
 | .non,.non=>true | .non,.int _=>true | .int _,.non=>true | .non,.bl _=>true | .bl _,.non=>true | .non,.str _=>true | .str _,.non=>true
 | .int _,.int _=>true | .bl _,.bl _=>true | .str _,.str _=>true | .byt _,.byt _=>true
 | .int _,.str _=>true | .str _,.int _=>true | .bl _,.str _=>true | .str _,.bl _=>true
 | _,_=>false
def rEq:R2:=fun x y H Q=>scal x y=true∧Q (.bl (decide (x=y))) H
def rNe:R2:=fun x y H Q=>scal x y=true∧Q (.bl (!decide (x=y))) H
theorem dec_int {i j:Int}:decide (V.int i=V.int j)=(i == j):=by
 rw[Bool.eq_iff_iff]
 simp
theorem dec_bl {i j:Bool}:decide (V.bl i=V.bl j)=(i == j):=by
 rw[Bool.eq_iff_iff]
 simp
theorem dec_str {i j:Str}:decide (V.str i=V.str j)=(i == j):=by
 rw[Bool.eq_iff_iff]
 simp
theorem dec_byt {i j:Array UInt8}:decide (V.byt i=V.byt j)=(i.toList == j.toList):=by
 rw[Bool.eq_iff_iff]
 cases i
 cases j
 simp
section
variable {X:Cx}{a b c:Expr}{ta tb tc:TE}{pos:Pos}
theorem vH {pins:List (Addr×Obj)}{σ:St}{H:Hp}{s:Shared}{Q:VK}{k k':Bool}(I:Inv X pins σ H s)(q:Q (.bl k) H)(e:k=k'):EP X pins σ Q (.bool k') s:=by
 subst e
 exact⟨.bl k,H,I,rfl,q⟩
theorem zDw:OpR X (compareOp .Eq) rEq:=by
 intro pins s σ H x y v u Q I rx ry h
 obtain⟨hs,q⟩:=h
 cases x with
 | non =>
  cases rx
  cases y with
  | non=>cases ry;exact PySem.EqNone.eq_none_none (vH I q (by simp))
  | bl j=>cases ry;exact PySem.EqNone.eq_none_bool (vH I q (by simp))
  | int j=>obtain⟨t',rfl⟩:=ry;exact PySem.EqNone.eq_none_int (vH I q (by simp))
  | str j=>obtain⟨t',rfl⟩:=ry;exact PySem.EqNone.eq_none_str (vH I q (by simp))
  | _=>exact absurd (show false=true from hs) Bool.false_ne_true
 | bl i =>
  cases rx
  cases y with
  | non=>cases ry;exact PySem.EqNone.eq_bool_none (vH I q (by simp))
  | bl j=>cases ry;exact eq_bool (vH I q dec_bl)
  | str j=>obtain⟨t',rfl⟩:=ry;exact PySem.EqMixed.eq_bool_str (vH I q (by simp))
  | _=>exact absurd (show false=true from hs) Bool.false_ne_true
 | int i =>
  obtain⟨t,rfl⟩:=rx
  cases y with
  | non=>cases ry;exact PySem.EqNone.eq_int_none (vH I q (by simp))
  | int j=>obtain⟨t',rfl⟩:=ry;exact eq_int (vH I q dec_int)
  | str j=>obtain⟨t',rfl⟩:=ry;exact PySem.EqMixed.eq_int_str (vH I q (by simp))
  | _=>exact absurd (show false=true from hs) Bool.false_ne_true
 | str i =>
  obtain⟨t,rfl⟩:=rx
  cases y with
  | non=>cases ry;exact PySem.EqNone.eq_str_none (vH I q (by simp))
  | bl j=>cases ry;exact PySem.EqMixed.eq_str_bool (vH I q (by simp))
  | int j=>obtain⟨t',rfl⟩:=ry;exact PySem.EqMixed.eq_str_int (vH I q (by simp))
  | str j=>obtain⟨t',rfl⟩:=ry;exact eq_str (vH I q dec_str)
  | _=>exact absurd (show false=true from hs) Bool.false_ne_true
 | byt i =>
  obtain⟨t,rfl⟩:=rx
  cases y with
  | byt j=>obtain⟨t',rfl⟩:=ry;exact PySem.W.eq_bytes (vH I q dec_byt)
  | _=>exact absurd (show false=true from hs) Bool.false_ne_true
 | _=>cases y <;> exact absurd (show false=true from hs) Bool.false_ne_true
theorem zDh:OpR X (compareOp .NotEq) rNe:=by
 intro pins s σ H x y v u Q I rx ry h
 obtain⟨hs,q⟩:=h
 cases x with
 | non =>
  cases rx
  cases y with
  | non=>cases ry;exact PySem.EqNone.ne_none_none (vH I q (by simp))
  | bl j=>cases ry;exact PySem.EqNone.ne_none_bool (vH I q (by simp))
  | int j=>obtain⟨t',rfl⟩:=ry;exact PySem.EqNone.ne_none_int (vH I q (by simp))
  | str j=>obtain⟨t',rfl⟩:=ry;exact PySem.EqNone.ne_none_str (vH I q (by simp))
  | _=>exact absurd (show false=true from hs) Bool.false_ne_true
 | bl i =>
  cases rx
  cases y with
  | non=>cases ry;exact PySem.EqNone.ne_bool_none (vH I q (by simp))
  | bl j=>cases ry;exact ne_bool (vH I q (congrArg not dec_bl))
  | str j=>obtain⟨t',rfl⟩:=ry;exact PySem.EqMixed.ne_bool_str (vH I q (by simp))
  | _=>exact absurd (show false=true from hs) Bool.false_ne_true
 | int i =>
  obtain⟨t,rfl⟩:=rx
  cases y with
  | non=>cases ry;exact PySem.EqNone.ne_int_none (vH I q (by simp))
  | int j=>obtain⟨t',rfl⟩:=ry;exact ne_int (vH I q (congrArg not dec_int))
  | str j=>obtain⟨t',rfl⟩:=ry;exact PySem.EqMixed.ne_int_str (vH I q (by simp))
  | _=>exact absurd (show false=true from hs) Bool.false_ne_true
 | str i =>
  obtain⟨t,rfl⟩:=rx
  cases y with
  | non=>cases ry;exact PySem.EqNone.ne_str_none (vH I q (by simp))
  | bl j=>cases ry;exact PySem.EqMixed.ne_str_bool (vH I q (by simp))
  | int j=>obtain⟨t',rfl⟩:=ry;exact PySem.EqMixed.ne_str_int (vH I q (by simp))
  | str j=>obtain⟨t',rfl⟩:=ry;exact ne_str (vH I q (congrArg not dec_str))
  | _=>exact absurd (show false=true from hs) Bool.false_ne_true
 | byt i =>
  obtain⟨t,rfl⟩:=rx
  cases y with
  | byt j=>obtain⟨t',rfl⟩:=ry;exact PySem.W.ne_bytes (vH I q (congrArg not dec_byt))
  | _=>exact absurd (show false=true from hs) Bool.false_ne_true
 | _=>cases y <;> exact absurd (show false=true from hs) Bool.false_ne_true
theorem op_lt:OpR X (compareOp .Lt) (rI0 fun i j=>.bl (decide (i < j))):=opB0 fun _ _ _ _ _ _ _ q=>lt_int q
theorem op_le:OpR X (compareOp .LtE) (rI0 fun i j=>.bl (decide (i≤j))):=opB0 fun _ _ _ _ _ _ _ q=>le_int q
theorem zEy:OpR X (compareOp .Gt) (rI0 fun i j=>.bl (decide (j < i))):=opB0 fun _ _ _ _ _ _ _ q=>gt_int q
theorem op_ge:OpR X (compareOp .GtE) (rI0 fun i j=>.bl (decide (j≤i))):=opB0 fun _ _ _ _ _ _ _ q=>ge_int q
theorem OpR.or {f:Value→Value→Sem Value}{r r':R2}(h:OpR X f r)(h':OpR X f r'):OpR X f (fun x y H Q=>r x y H Q∨r' x y H Q):=by
 intro pins s σ H x y v u Q I rx ry q
 rcases q with q | q
 ·exact h pins s σ H x y v u Q I rx ry q
 ·exact h' pins s σ H x y v u Q I rx ry q
theorem zZ (b:Expr){op:CmpOp}(h:op≠.In:=by decide)(h2:op≠.NotIn:=by decide):behindInMarks op b=false:=by
 have e1:(op == CmpOp.In)=false:=by cases op <;> first | rfl | exact absurd rfl h
 have e2:(op == CmpOp.NotIn)=false:=by cases op <;> first | rfl | exact absurd rfl h2
 cases b <;> simp [behindInMarks,e1,e2]
theorem pe_cmpR {op:CmpOp}{r:R2}(ho:OpR X (compareOp op) r)(ha:PE X a ta)(hb:PE X b tb)(hm:behindInMarks op b=false):PE X (.Compare a [op] [b] pos) (tOp r ta tb):=by
 intro pins s σ H Q I h
 exact wpAny_Compare1 (binT ha hb I h fun v u s2 x y H2 I2 rx ry q=>ho pins s2 σ H2 x y v u Q I2 rx ry q) hm
def tTest (t:TE):TT:=fun σ H Q=>t σ H fun x H'=>∃ k,x=.bl k∧Q k H'
theorem zS {op:CmpOp}{r:R2}(ho:OpR X (compareOp op) r)(ha:PE X a ta)(hb:PE X b tb)(hm:behindInMarks op b=false):PT X (.Compare a [op] [b] pos) (tTest (tOp r ta tb)):=by
 intro pins s σ H Q I h
 refine wpAny_isTrue_Compare1 (thn (ha pins s σ H _ I h) fun v s1 ⟨x,H1,I1,r1,q1⟩=>thn (hb pins s1 σ H1 _ I1 q1) fun u s2 ⟨y,H2,I2,r2,q2⟩ =>
  thn (ho pins s2 σ H2 x y v u _ I2 r1 r2 q2) fun c s3 ⟨z,H3,I3,r3,k,e,q3⟩=>?_) hm
 subst e
 cases r3
 exact wpAny_truthy_bool ⟨H3,I3,q3⟩
theorem line63:(sizeLine:Nat) < 2^63:=by rw[sizeLine_eq];decide
theorem vals1 {x:V}{us:List Value}(r:Vals [x] us):∃ u,us=[u]∧RelV x u:=by
 cases r with
 | cons r1 r2=>cases r2;exact⟨_,rfl,r1⟩
theorem vals2 {x y:V}{us:List Value}(r:Vals [x,y] us):∃ u w',us=[u,w']∧RelV x u∧RelV y w':=by
 cases r with
 | cons r1 r2 =>
  cases r2 with
  | cons r3 r4=>cases r4;exact⟨_,_,rfl,r1,r3⟩
theorem zBw:j4 X (.builtin "abs") (fun xs H Q=>∃ i,xs=[.int i]∧Q (.int (if i < 0 then -i else i)) H):=by
 intro pins s σ H xs us Q I r h
 obtain⟨i,rfl,q⟩:=h
 obtain⟨u,rfl,t,rfl⟩:=vals1 r
 exact call_abs_int fun u tk=>⟨.int (if i < 0 then -i else i),H,I.tok _,⟨_,rfl⟩,q⟩
theorem call_min2 (hc:X.calm=true):j4 X (.builtin "min") (fun xs H Q=>∃ i j,xs=[.int i,.int j]∧Q (.int (if j < i then j else i)) H):=by
 intro pins s σ H xs us Q I r h
 obtain⟨i,j,rfl,q⟩:=h
 obtain⟨u,w',rfl,⟨t,rfl⟩,⟨t',rfl⟩⟩:=vals2 r
 refine min_two_ints (I.ok.hd hc) fun h' tk k=>⟨_,H,I.kept k,?_,q⟩
 by_cases hj:j < i
 ·rw[if_pos hj,if_pos hj];exact⟨_,rfl⟩
 ·rw[if_neg hj,if_neg hj];exact⟨_,rfl⟩
end
end L2
namespace L2
open PySem PySem.Spec PyProof.Rows
structure ObjM (h:Heap)(x dx C:Addr)(mA:Str→Option Value):Prop where
 obj:h.get? x=some (PySem.W.instObj C dx)
 ns:h.Ns1 dx mA
 ne:dx≠x
theorem lookIn_ns {h:Heap}{dx:Addr}{mA:Str→Option Value}(n:h.Ns1 dx mA):∃ od,h.get? dx=some od∧∀ name,PySem.W.lookIn name od=some (mA name):=by
 obtain⟨o,es,ep,ho,hd,hk,_,hm⟩:=n
 refine⟨o,ho,fun name=>?_⟩
 have e:=hm name
 unfold nsFind findBy at e
 rw[← Array.find?_toList] at e
 unfold PySem.W.lookIn
 rw[hd]
 dsimp only
 split
 ·rename_i y q
  rw[q] at e
  exact congrArg some e
 ·rename_i q
  rw[q] at e
  have a:es.toList.any (·.refKey)=false:=by
   rw[List.any_eq_false]
   intro y hy
   obtain⟨z,t,hkey⟩:=hk y (Array.mem_toList_iff.mp hy)
   simp [DictEntry.refKey,hkey]
  have a':¬ es.toList.any (·.refKey)=true:=by rw[a];exact Bool.false_ne_true
  rw[if_neg a']
  exact congrArg some e
theorem ObjM.look {h:Heap}{x dx C:Addr}{mA:Str→Option Value}(I:ObjM h x dx C mA):∃ od,PySem.W.InstAt h x (PySem.W.instObj C dx) C (some od)∧∀ name,PySem.W.lookIn name od=some (mA name) :=
 let ⟨od,ho,hl⟩:=lookIn_ns I.ns
 ⟨od,⟨I.obj,rfl,rfl,ho⟩,hl⟩
section
variable {prog:Program}{w:World}{A:Around}{E:Value→Shared→Prop}{s:Shared}{K:PySem.W.Frag}{x dx C f:Addr}{mA:Str→Option Value}{name:Str}{v:Value}
end
section
variable {P:Program}{w:World}{H H':Hp}{h h':Heap}{a C dx:Addr}{fs fs':List (Str×V)}
theorem ins_get (hok:HOk P w H h)(e:H a=some (.ins C dx fs)):∃ mA,ObjM h a dx C mA∧(∀ f,RelO (fs.lookup f) (mA f))∧PySem.Within mA (fs.map (·.1))∧fs.length≤1000∧H dx=some (.own a):=by
 obtain⟨d,z,ne,ob,mA,n,r,q⟩:=(show vY P w H h a (.ins C dx fs) from hok a _ e)
 exact⟨mA,⟨ob,n,ne⟩,r,q,z,d⟩
end
structure Cls (K:PySem.W.Frag)(C:Addr):Prop where
 pg:PySem.W.plainGet K C Str.empty=true
 hd:PySem.W.hasDictIn K C=true
 po:PySem.W.plainOver K C=true
 sa:PySem.W.findIn K (.ref C) "__setattr__"=some (some (.builtin "object.__setattr__"))
theorem Cls.get {K:PySem.W.Frag}{C:Addr}(c:Cls K C)(f:Str):PySem.W.plainGet K C f=true:=c.pg
section
variable {X:Cx}{pins:List (Addr×Obj)}{σ:St}{H:Hp}{s:Shared}{a C dx:Addr}{fs:List (Str×V)}{f:Str}{v:V}{A:Around}{E:Value→Shared→Prop}
end
section
variable {X:Cx}{o e value:Expr}{f:Str}{pos pos' tpos:Pos}{ta tv:TE}
end
section
variable {X:Cx}{pins:List (Addr×Obj)}{σ:St}{H:Hp}{s:Shared}{A:Around}{E:Value→Shared→Prop}{Q:Value→Shared→Prop}{c:Value}{b:Bool}
inductive TyOf (K:PySem.W.Frag)(H:Hp):V→Value→Prop where
 | non:TyOf K H .non (.type "NoneType")
 | bl (x:Bool):TyOf K H (.bl x) (.type "bool")
 | int (i:Int):TyOf K H (.int i) (.type "int")
 | str (x:Str):TyOf K H (.str x) (.type "str")
 | flt (x:UInt64):TyOf K H (.flt x) (.type "float")
 | lst {a:Addr}{xs:List V}(e:H a=some (.lst xs)):TyOf K H (.ref a) (.type "list")
 | frz {a:Addr}{o:Obj}{xs:List V}(e:H a=some (.frz o (.lst xs))):TyOf K H (.ref a) (.type "list")
 | tup {a:Addr}{xs:List V}(e:H a=some (.tup xs)):TyOf K H (.ref a) (.type "tuple")
 | dK {a:Addr}{kvs:List (Key×V)}(e:H a=some (.dK kvs)):TyOf K H (.ref a) (.type "dict")
 | dT {a:Addr}{kvs:List (List Key×V)}(e:H a=some (.dT kvs)):TyOf K H (.ref a) (.type "dict")
 | ins {a C dx:Addr}{fs:List (Str×V)}(e:H a=some (.ins C dx fs))(cl:Cls K C)(ha:PySem.W.findIn K (.ref C) "__class__"=some (some (.builtin "object.__class__")))
   (hn:PySem.W.specialIn K (.builtin "object.__class__") "__get__"=some (some (.builtin "getset_descriptor.__get__")))(htk:PySem.W.takesIn K (.builtin "object.__class__")=some true)
   (hm:PySem.W.mroIn K C (.type "object")=some true):TyOf K H (.ref a) (.ref C)
theorem isinst_ok {x:V}{u t:Value}(I:Inv X pins σ H s)(rx:RelV x u)(ty:TyOf X.K H x t)(e:PySem.W.kitOne X.K t c=some b)(h:∀ tk,Q (.bool b) { s with toks:=tk }) :
  wpAny (model X.prog X.w) A (call (.builtin "isinstance") [u,c]) Q E s:=by
 cases ty with
 | non=>cases (show u=Value.none from rx);exact PySem.W.kia_one PySem.W.kitx_none I.kIn True.intro e (fun z=>nomatch z) h
 | bl y=>cases (show u=Value.bool y from rx);exact PySem.W.kia_one PySem.W.kitx_bool I.kIn True.intro e (fun z=>nomatch z) h
 | int i=>obtain⟨t,q⟩:=(show ∃ t,u=Value.int i t from rx);cases q;exact PySem.W.kia_one PySem.W.kitx_int I.kIn True.intro e (fun z=>nomatch z) h
 | str y=>obtain⟨t,q⟩:=(show ∃ t,u=Value.str y t from rx);cases q;exact PySem.W.kia_one PySem.W.kitx_str I.kIn True.intro e (fun z=>nomatch z) h
 | flt y=>obtain⟨t,q⟩:=(show ∃ t,u=Value.float y t from rx);cases q;exact PySem.W.kia_one PySem.W.kitx_float I.kIn True.intro e (fun z=>nomatch z) h
 | @lst a xs ea =>
  cases (show u=Value.ref a from rx)
  obtain⟨_,_,n,_,h1⟩:=(show vY X.prog X.w H s.heap a (.lst xs) from I.hok a _ ea)
  exact PySem.W.kia_one PySem.W.kitx_list I.kIn ⟨_,h1,rfl⟩ e (fun z=>nomatch z) h
 | @frz a ob xs ea =>
  cases (show u=Value.ref a from rx)
  obtain⟨_,_,_,n,_,h1⟩:=(show vY X.prog X.w H s.heap a (.frz ob (.lst xs)) from I.hok a _ ea)
  exact PySem.W.kia_one PySem.W.kitx_list I.kIn ⟨_,h1,rfl⟩ e (fun z=>nomatch z) h
 | @tup a xs ea =>
  cases (show u=Value.ref a from rx)
  obtain⟨_,_,_,p⟩:=(show vY X.prog X.w H s.heap a (.tup xs) from I.hok a _ ea)
  obtain⟨o,h1,h2,_⟩:=p
  exact PySem.W.kia_one PySem.W.kitx_tuple I.kIn ⟨o,h1,h2⟩ e (fun z=>nomatch z) h
 | @dK a kvs ea =>
  cases (show u=Value.ref a from rx)
  obtain⟨_,_,vs,_,p⟩:=(show vY X.prog X.w H s.heap a (.dK kvs) from I.hok a _ ea)
  obtain⟨o,es,ep,h1,h2,_⟩:=p
  exact PySem.W.kia_one PySem.W.kitx_dict I.kIn ⟨o,h1,h2.1⟩ e (fun z=>nomatch z) h
 | @dT a kvs ea =>
  cases (show u=Value.ref a from rx)
  obtain⟨_,_,xs,_,o,es,ep,h1,h2,_⟩:=(show vY X.prog X.w H s.heap a (.dT kvs) from I.hok a _ ea)
  exact PySem.W.kia_one PySem.W.kitx_dict I.kIn ⟨o,h1,h2.1⟩ e (fun z=>nomatch z) h
 | @ins a C dx fs ea cl ha hn htk hm =>
  cases (show u=Value.ref a from rx)
  obtain⟨mA,O,_⟩:=ins_get I.hok ea
  obtain⟨od,J,_⟩:=O.look
  exact PySem.W.kia_one (PySem.W.kitx_own (cl.get _) cl.hd ha hn htk hm) I.kIn J e (fun z=>nomatch z) h
end
end L2
namespace L2
open PySem PySem.Spec PyProof.Rows
structure zBu (k:Nat)(A:Around):Prop where
 hd:A.handled=none
 dp:A.depth+3*k+5 < recursionLimit
 un:A.units+16*k+200 < cLine
theorem zBu.mono {j k:Nat}{A:Around}(r:zBu k A)(h:j≤k):zBu j A:=⟨r.hd,by have:=r.dp;omega,by have:=r.un;omega⟩
theorem zBu.deeper {k:Nat}{A:Around}(r:zBu (k+1) A)(env:Env):zBu k (A.deeper env) :=
 ⟨r.hd,by have:=r.dp;show A.depth+1+3*k+5 < _;omega,by have:=r.un;show A.units+3+16*k+200 < _;omega⟩
theorem zBu.in1 {k:Nat}{A:Around}(r:zBu (k+1) A):zBu k A.in1 :=
 ⟨r.hd,by have:=r.dp;show A.depth+3*k+5 < _;omega,by have:=r.un;show A.units+1+16*k+200 < _;omega⟩
theorem zBu.depth {k:Nat}{A:Around}(r:zBu k A):A.depth < recursionLimit:=by have:=r.dp;omega
theorem zBu.units {k:Nat}{A:Around}(r:zBu k A):A.units+64 < cLine:=by have:=r.un;omega
def tNil:TA:=fun _ H Q=>Q [] H
def tCons (ta:TE)(tr:TA):TA:=fun σ H Q=>ta σ H fun x H1=>tr σ H1 fun xs H2=>Q (x::xs) H2
section
variable {X:Cx}{e:Expr}{es:List Expr}{te:TE}{t:TA}{pos:Pos}
theorem zF:PA X [] tNil:=fun _ _ _ _ H Q I h=>Calls.spliced_nil ⟨[],H,I,.nil,h⟩
theorem zB (ha:PE X e te)(hr:PA X es t)(hs:starEach (e::es) X.env=(false,eval e X.env)::starEach es X.env:=by rfl):PA X (e::es) (tCons te t):=by
 intro pos pins s σ H Q I h
 rw[hs]
 show wpAny _ _ (spliced ((false,eval e X.env)::backTo pos (starEach es X.env))) _ _ s
 refine Calls.spliced_cons (thn (ha pins s σ H _ I h) fun u s1 ⟨x,H1,I1,r1,q1⟩=>?_)
 exact thn (hr pos pins s1 σ H1 _ I1 q1) fun us s2 ⟨xs,H2,I2,r2,q2⟩=>⟨x::xs,H2,I2,.cons r1 r2,q2⟩
def tTup (t:TA):TE:=fun σ H Q=>t σ H fun xs H1=>xs.length≤sizeLine∧∀ p,H1 p=none→Q (.ref p) (upd H1 p (.tup xs))
def tLst (t:TA):TE:=fun σ H Q=>t σ H fun xs H1=>xs.length≤sizeLine∧∀ p,H1 p=none→Q (.ref p) (upd H1 p (.lst xs))
theorem jL {x1}(h:PA X es t):PE X (.Tuple es x1 pos) (tTup t):=by
 intro pins s σ H Q I hq
 refine wpAny_Tuple_spliced (thn (h pos pins s σ H _ I hq) fun us s1 ⟨xs,H1,I1,r,z,q⟩=>⟨by rw[← r.length];exact z,?_⟩)
 have hf:H1 s1.heap.objs.size=none:=I1.hok.fresh (Nat.le_refl _)
 refine⟨.ref s1.heap.objs.size,upd H1 s1.heap.objs.size (.tup xs),I1.laid (t':=s1.toks) (fun b u e=>Heap.get?_push_of_some _ e) (Nat.le_refl _) ?_,rfl,q _ hf⟩
 exact⟨z,us,r,⟨_,Heap.get?_push_size _ rfl,rfl,_,rfl⟩⟩
theorem zEm (h:PA X es t):PE X (.List es pos) (tLst t):=by
 intro pins s σ H Q I hq
 refine wpAny_List_spliced (thn (h pos pins s σ H _ I hq) fun us s1 ⟨xs,H1,I1,r,z,q⟩=>⟨by rw[← r.length];exact z,?_⟩)
 have hf:H1 s1.heap.objs.size=none:=I1.hok.fresh (Nat.le_refl _)
 refine⟨.ref s1.heap.objs.size,upd H1 s1.heap.objs.size (.lst xs),I1.laid (t':=s1.toks) (fun b u e=>Heap.get?_push_of_some _ e) (Nat.le_refl _) ?_,rfl,q _ hf⟩
 exact⟨z,us,0,r,Heap.get?_push_size _ rfl⟩
end
abbrev Sp:=List V→Hp→VK→XK→Prop
abbrev CXT:=List Env→Hp→Shared→XK→Value→Shared→Prop
structure Env0 (P:Program)(w:World)(K:PySem.W.Frag)(mg:Str→Option Value)(base:Heap)(A:Around)(outer:List Env)(s:Shared)(H:Hp):Prop where
 frames:A.frames=some outer
 mod:Mod K mg base
 bs:∀ b o,base.get? b=some o→s.heap.get? b=some o∧H b=none
 bsz:base.objs.size≤s.heap.objs.size
 funs:s.heap.FunFrames base outer
 frf:∀ b∈frs outer,H b=none
 hok:HOk P w H s.heap
 bare:AllBare s.gens
def CE (outer:List Env)(P:Program)(w:World)(H:Hp)(s:Shared)(Q:VK)(u:Value)(s':Shared):Prop :=
 ∃ v H',s'.os=s.os∧AllBare s'.gens∧Un (frs outer) [] H H' s.heap s'.heap∧HOk P w H' s'.heap∧RelV v u∧Q v H'
def CR (CX:CXT)(outer:List Env)(P:Program)(w:World)(H:Hp)(s:Shared)(Q:VK)(E:XK)(r:Result)(s':Shared):Prop :=
 match r with
 | .ok (.ret u)=>CE outer P w H s Q u s'
 | .ok _=>False
 | .error e=>CX outer H s E e s'
structure zFo (P:Program)(w:World)(K:PySem.W.Frag)(mg:Str→Option Value)(base:Heap)(CX:CXT)(k:Nat)(f:Addr)(fd:FuncData)(ps:List Str)(sp:Sp):Prop where
 len:∀ vs H Q E,sp vs H Q E→vs.length=ps.length
 run:∀ (A:Around)(outer:List Env)(s:Shared)(H:Hp)(args:Args)(us:List Value)(vs:List V)(Q:VK)(E:XK),zBu k A→Env0 P w K mg base A outer s H→BindsTo s fd args (ps.zip us)→Vals vs us→sp vs H Q E →
  codeAny (model P w) A (.call (.ref f) args) (CR CX outer P w H s Q E) s
theorem zFo.mono {P:Program}{w:World}{K:PySem.W.Frag}{mg:Str→Option Value}{base:Heap}{CX:CXT}{j k:Nat}{f:Addr}{fd:FuncData}{ps:List Str}{sp:Sp}(F:zFo P w K mg base CX j f fd ps sp)(h:j≤k) :
  zFo P w K mg base CX k f fd ps sp:=⟨F.len,fun A outer s H args us vs Q E hr=>F.run A outer s H args us vs Q E (hr.mono h)⟩
theorem zFo.imp {P:Program}{w:World}{K:PySem.W.Frag}{mg:Str→Option Value}{base:Heap}{CX:CXT}{k:Nat}{f:Addr}{fd:FuncData}{ps:List Str}{sp sp':Sp}(F:zFo P w K mg base CX k f fd ps sp)
  (h:∀ vs H Q E,sp' vs H Q E→sp vs H Q E):zFo P w K mg base CX k f fd ps sp' :=
 ⟨fun vs H Q E q=>F.len vs H Q E (h _ _ _ _ q),fun A outer s H args us vs Q E hr he hb hv hs=>F.run A outer s H args us vs Q E hr he hb hv (h _ _ _ _ hs)⟩
theorem Env0.in1 {P:Program}{w:World}{K:PySem.W.Frag}{mg:Str→Option Value}{base:Heap}{A:Around}{outer:List Env}{s:Shared}{H:Hp}(e:Env0 P w K mg base A outer s H) :
  Env0 P w K mg base A.in1 outer s H:=⟨e.frames,e.mod,e.bs,e.bsz,e.funs,e.frf,e.hok,e.bare⟩
section
variable {X:Cx}{pins:List (Addr×Obj)}{σ:St}{H:Hp}{s s':Shared}
theorem Inv.env0 (I:Inv X pins σ H s):Env0 X.prog X.w X.K X.mg X.base X.A X.stack s H :=
 ⟨I.ok.frames,I.ok.mod,I.bs,Nat.le_trans I.ok.bsz I.sz,I.stack,I.stkFree,I.hok,I.bare⟩
theorem Inv.after {Q:VK}{u:Value}(I:Inv X pins σ H s)(h:CE X.stack X.prog X.w H s Q u s'):EP X pins σ Q u s':=by
 obtain⟨v,H',os,bare,un,hok,r,q⟩:=h
 obtain⟨hh,g,d,t,os'⟩:=s'
 obtain rfl:os'=s.os:=os
 exact⟨v,H',I.call (h':=hh) (g':=g) (d':=d) (t':=t) (ch:=[]) un hok bare (fun b z=>absurd z (by simp)),r,q⟩
end
def tCall (sp:Sp)(dvs:List V)(E:XK)(t:TA):TE:=fun σ H Q=>t σ H fun vs H1=>sp (vs ++ dvs) H1 Q E
def Binds (K:PySem.W.Frag)(fd:FuncData)(ps:List Str)(ds:List Value):Prop :=
 ∀ (s:Shared)(us:List Value),K.In s.heap→(us ++ ds).length=ps.length→BindsTo s fd ⟨us,[]⟩ (ps.zip (us ++ ds))
theorem Binds.all {K:PySem.W.Frag}{fd:FuncData}{ps:List Str}(h:∀ us:List Value,us.length=ps.length→bindArgs fd ⟨us,[]⟩=pure (ps.zip us)):Binds K fd ps []:=fun s us _ hl=>by
 rw[List.append_nil] at hl ⊢
 exact .of_eq (h us hl)
def Passes (CX:CXT)(X:Cx)(E:XK):Prop:=∀ (pins:List (Addr×Obj))(σ:St)(H:Hp)(s:Shared)(e:Value)(s':Shared),Inv X pins σ H s→CX X.stack H s E e s'→X.xe e s'
section
variable {X:Cx}{CX:CXT}{k:Nat}{f C:Addr}{fd:FuncData}{ps:List Str}{sp:Sp}{dvs:List V}{ds:List Value}{E:XK}{x m:Str}{p pos apos:Pos}{e o:Expr}{es:List Expr}{ta:TE}{t:TA}
theorem run_fn {pins:List (Addr×Obj)}{σ:St}{H:Hp}{s:Shared}{Q:VK}{us:List Value}{vs:List V}(F:zFo X.prog X.w X.K X.mg X.base CX k f fd ps sp)(hr:zBu k X.A)(hb:Binds X.K fd ps ds)(hd:Vals dvs ds)(hx:Passes CX X E)
  (I:Inv X pins σ H s)(r:Vals vs us)(h:sp (vs ++ dvs) H Q E):wpAny (model X.prog X.w) X.A (call (.ref f) us) (EP X pins σ Q) X.xe s:=by
 have r2:Vals (vs ++ dvs) (us ++ ds):=r.append hd
 have hl:(us ++ ds).length=ps.length:=by rw[← r2.length];exact F.len _ _ _ _ h
 refine wpAny_call (codeAny_mono (F.run X.A X.stack s H ⟨us,[]⟩ (us ++ ds) (vs ++ dvs) Q E hr I.env0 (hb s us I.kIn hl) r2 h) fun r s' hq=>?_)
 cases r with
 | error e=>exact hx pins σ H s e s' I hq
 | ok fl =>
  cases fl with
  | ret u=>exact I.after hq
  | next=>exact False.elim hq
  | brk=>exact False.elim hq
  | cont=>exact False.elim hq
theorem pe_call (F:zFo X.prog X.w X.K X.mg X.base CX k f fd ps sp)(hr:zBu k X.A)(hg:Gl X x)(hm:X.mg x=some (.ref f))(hk:PySem.W.keepIn X.K (.ref f)=true)(hb:Binds X.K fd ps ds)(hd:Vals dvs ds)(hx:Passes CX X E)
  (ha:PA X (e::es) t)(hdb:(x == ("__debug__":Str))=false:=by decide)(he:starEach (e::es) X.env=(false,eval e X.env)::starEach es X.env:=by rfl)(hpl:(backTo pos (starEach es X.env)).any (·.1)=false:=by rfl) :
  PE X (.Call (.Name x p) (e::es) [] pos) (tCall sp dvs E t):=by
 intro pins s σ H Q I h
 refine wpAny_Call_Name_kw (ld_glob I hg hm ?_ hdb)
 refine PySem.W.callWith_K (h₀:=X.base) I.ok.mod.kin hk (thn (ha pos pins s σ H _ I h) fun us s1 ⟨vs,H1,I1,r,q⟩=>⟨I1.kIn,?_⟩) he hpl
 exact run_fn F hr hb hd hx I1 r q
end
section
variable {X:Cx}{CX:CXT}{k:Nat}{f C:Addr}{fd:FuncData}{ps ks:List Str}{sp:Sp}{E:XK}{x m:Str}{p pos apos kpos:Pos}{e o:Expr}{es:List Expr}{kws:List Keyword}{te ta:TE}{t tk:TA}{nm:Option Str}
variable {g:List Value→List Value→List Value}{gV:List V→List V→List V}
end
structure zN (N P:List Str)(sc:Scope):Prop where
 kind:sc.kind=.function
 co:sc.isCoroutine=false
 gen:sc.isGenerator=false
 nd:N.Nodup
 pre:N.take P.length=P
 par:∀ x∈P,sc.names.lookup x=some .local∨sc.names.lookup x=some .cell
 nofree:∀ y∈sc.names,y.2≠.free
theorem bindL_out {kindOf:Str→Option NameKind}{x:Str}:∀ {binds:List (Str×Value)}{m:Str→Option Value},(∀ v,(x,v)∉binds)→bindL kindOf binds m x=m x
 | [],_,_=>rfl
 | (n,v)::r,m,h=>by
  unfold bindL
  rw[bindL_out fun w hw=>h w (List.mem_cons_of_mem _ hw)]
  split
  ·have:x≠n:=by rintro rfl;exact h v List.mem_cons_self
   simp [this]
  ·rfl
theorem bindC_out {kindOf:Str→Option NameKind}{x:Str}:∀ {binds:List (Str×Value)}{m:Str→Option Value},(∀ v,(x,v)∉binds)→bindC kindOf binds m x=m x
 | [],_,_=>rfl
 | (n,v)::r,m,h=>by
  unfold bindC
  rw[bindC_out fun w hw=>h w (List.mem_cons_of_mem _ hw)]
  split
  ·rfl
  ·have:x≠n:=by rintro rfl;exact h v List.mem_cons_self
   simp [this]
theorem bindL_get {kindOf:Str→Option NameKind}{x:Str}{v:Value}:∀ {P:List Str}{vs:List Value}{i:Nat}{m:Str→Option Value},P.Nodup→P[i]?=some x→vs[i]?=some v→kindOf x=some .local →
  bindL kindOf (P.zip vs) m x=some v
 | [],_,_,_,_,h,_,_=>by simp at h
 | _::_,[],_,_,_,_,h,_=>by simp at h
 | p::P,w::vs,0,m,nd,h1,h2,hk=>by
  simp at h1 h2;subst h1;subst h2
  show bindL kindOf ((p,w)::P.zip vs) m p=_
  unfold bindL
  rw[bindL_out fun v hv=>(List.nodup_cons.mp nd).1 (List.of_mem_zip hv).1,if_pos hk]
  simp
 | p::P,w::vs,i+1,m,nd,h1,h2,hk=>by
  show bindL kindOf ((p,w)::P.zip vs) m x=_
  unfold bindL
  exact bindL_get (i:=i) (List.nodup_cons.mp nd).2 (by simpa using h1) (by simpa using h2) hk
theorem bindC_get {kindOf:Str→Option NameKind}{x:Str}{v:Value}:∀ {P:List Str}{vs:List Value}{i:Nat}{m:Str→Option Value},P.Nodup→P[i]?=some x→vs[i]?=some v→kindOf x≠some .local →
  bindC kindOf (P.zip vs) m x=some v
 | [],_,_,_,_,h,_,_=>by simp at h
 | _::_,[],_,_,_,_,h,_=>by simp at h
 | p::P,w::vs,0,m,nd,h1,h2,hk=>by
  simp at h1 h2;subst h1;subst h2
  show bindC kindOf ((p,w)::P.zip vs) m p=_
  unfold bindC
  rw[bindC_out fun v hv=>(List.nodup_cons.mp nd).1 (List.of_mem_zip hv).1,if_neg hk]
  simp
 | p::P,w::vs,i+1,m,nd,h1,h2,hk=>by
  show bindC kindOf ((p,w)::P.zip vs) m x=_
  unfold bindC
  exact bindC_get (i:=i) (List.nodup_cons.mp nd).2 (by simpa using h1) (by simpa using h2) hk
def start (N:List Str)(vs:List V):St:=vs.map some ++ List.replicate (N.length-vs.length) none
def cxOf (CX:CXT)(P:Program)(w:World)(K:PySem.W.Frag)(mg:Str→Option Value)(base:Heap)(N:List Str)(qual:Str)(scope:Scope)(f:Addr)(cd:Value)(A:Around)(outer:List Env)(s:Shared)(H:Hp)(E:XK):Cx where
 prog:=P
 w:=w
 K:=K
 mg:=mg
 base:=base
 A:=A.deeper (envOfC qual scope s.heap.objs.size f cd)
 N:=N
 s₀:=s
 H₀:=H
 env:=envOfC qual scope s.heap.objs.size f cd
 outer:=outer
 stack:=envOfC qual scope s.heap.objs.size f cd::outer
 ex:=[]
 calm:=true
 fn:=fun _=>true
 pn:=[]
 xe:=fun e s'=>wpAny (model P w) (A.deeper (envOfC qual scope s.heap.objs.size f cd)) (leaving (envOfC qual scope s.heap.objs.size f cd) e) (fun _ s''=>CX outer H s E e s'') (fun e' s''=>CX outer H s E e' s'') s'
theorem cell_has {sc:Scope}{n:Nat}{x:Str}(h:sc.names.lookup x=some .cell):∃ c,(cellsFrom n sc.names []).lookup x=some c:=by
 have q:=PySem.W.cellsFrom_some sc.names n [] (.inl h)
 exact Option.isSome_iff_exists.mp q
theorem inv_start {CX:CXT}{P:Program}{w:World}{K:PySem.W.Frag}{mg:Str→Option Value}{base:Heap}{N ps:List Str}{qual:Str}{scope:Scope}{f:Addr}{cd:Value}{A:Around}{outer:List Env}{s s1:Shared}{H:Hp}{E:XK}{us:List Value}{vs:List V}
  (S:zN N ps scope)(hd:A.handled=none)(e0:Env0 P w K mg base A outer s H)(hl:vs.length=ps.length)(r:Vals vs us)
  (x:InCallC s s.heap.objs.size (bindL (envOfC qual scope s.heap.objs.size f cd).kindOf (ps.zip us) fun _=>none) (cellsFrom (s.heap.objs.size+1) scope.names []) (bindC (envOfC qual scope s.heap.objs.size f cd).kindOf (ps.zip us) fun _=>none) s1) :
  Inv (cxOf CX P w K mg base N qual scope f cd A outer s H E) [] (start N vs) H s1:=by
 have hpl:ps.length≤N.length:=by have:=congrArg List.length S.pre;rw[List.length_take] at this;omega
 obtain⟨h1,tk,rfl,hk⟩:=x.done
 have noA:∀ b:Addr,b∉(cxOf CX P w K mg base N qual scope f cd A outer s H E).ex:=fun b z=>absurd (show b∈([]:List Addr) from z) (by simp)
 refine⟨⟨e0.mod,S.kind,rfl,rfl,Nat.le_refl _,fun y z c h1 h2=>?_,fun y hy=>?_,fun y c _ h=>?_,fun _=>hd,Around.frames_deeper e0.frames,.inr ⟨rfl,rfl⟩,fun b z=>absurd z (noA b),e0.bs,e0.bsz,fun b _ _=>noA b,fun b z=>absurd z (noA b),e0.funs,e0.frf⟩,
  rfl,e0.bare,Un.kept hk,⟨_,x.toInCall.ns,fun i y v h1 h2 h3=>?_⟩,fun y c h=>⟨_,x.cell y c h⟩,e0.hok.fresh (Nat.le_refl _),fun y c h=>?_,fun p hp=>absurd (show p∈([]:List (Addr×Obj)) from hp) (by simp),e0.hok.kept hk,?_⟩
 ·exact name_of_addr x.apart (PySem.mem_of_lookup h1) (PySem.mem_of_lookup h2)
 ·have hy:scope.names.lookup y=some .cell∨scope.names.lookup y=some .free:=hy
  rcases hy with hy | hy
  ·exact cell_has hy
  ·exact absurd rfl (S.nofree _ (PySem.mem_of_lookup hy))
 ·exact Nat.le_of_lt (x.above y c (PySem.mem_of_lookup h))
 ·have hi:i < vs.length:=by
   unfold start at h2
   by_cases hi:i < vs.length
   ·exact hi
   ·rw[List.getElem?_append_right (by simpa using hi)] at h2
    rw[List.getElem?_replicate] at h2
    split at h2 <;> cases h2
  have ha:vs[i]?=some v:=by
   unfold start at h2
   rw[List.getElem?_append_left (by simpa using hi),List.getElem?_map] at h2
   cases e:vs[i]? with
   | none=>rw[e] at h2;cases h2
   | some a=>rw[e] at h2;cases h2;rfl
  obtain⟨u,hu,rv⟩:=r.get ha
  have hp:ps[i]?=some y:=by
   rw[← S.pre,List.getElem?_take_of_lt (by omega)];exact h1
  have ndP:ps.Nodup:=by rw[← S.pre];exact S.nd.sublist (List.take_sublist _ _)
  refine⟨u,rv,?_⟩
  rcases S.par y (List.mem_of_getElem? hp) with k | k
  ·exact .inl ⟨k,bindL_get ndP hp hu k⟩
  ·obtain⟨c,e⟩:=cell_has (n:=s.heap.objs.size+1) k
   refine .inr ⟨.inl k,c,e,?_⟩
   have q:=x.cell y c e
   rw[bindC_get ndP hp hu (by show scope.names.lookup y≠_;rw[k];decide)] at q
   exact q
 ·exact e0.hok.fresh (Nat.le_of_lt (x.above y c (PySem.mem_of_lookup h)))
 ·unfold start
  show _=N.length
  rw[List.length_append,List.length_map,List.length_replicate]
  omega
theorem fn_of {CX:CXT}{P:Program}{w:World}{K:PySem.W.Frag}{mg:Str→Option Value}{base:Heap}{k:Nat}{f:Addr}{name qual:Str}{params:Arguments}{body:List Stmt}{scope:Scope}{dV kV doc pm cdv ct oc:Value}{an od:Option Addr}
  {osl:Array (Option Value)}{N ps:List Str}{sp:Sp}(lk:K.lookup f=some ⟨oc,od,.func (PySem.W.fnOf name qual params body scope dV kV doc pm an cdv ct),osl⟩)(hcd:PySem.W.codeIn K cdv qual=true)(S:zN N ps scope)
  (len:∀ vs H Q E,sp vs H Q E→vs.length=ps.length)
  (hbody:∀ (A:Around)(outer:List Env)(s:Shared)(H:Hp)(vs:List V)(Q:VK)(E:XK),zBu k (A.deeper (envOfC qual scope s.heap.objs.size f cdv))→sp vs H Q E →
   ∃ t,PSs (cxOf CX P w K mg base N qual scope f cdv A outer s H E) body t∧t { nx:=fun _ H'=>Q .non H',rt:=Q } (start N vs) H) :
  zFo P w K mg base CX (k+1) f (PySem.W.fnOf name qual params body scope dV kV doc pm an cdv ct) ps sp:=by
 refine⟨len,fun A outer s H args us vs Q E hr e0 hb r hsp=>?_⟩
 have hl:=len _ _ _ _ hsp
 have KX:K.In s.heap:=e0.mod.kin.keeps fun b o e=>(e0.bs b o e).1
 have lim:s.heap.NoLimit:=e0.mod.nolimit.keeps fun b o e=>(e0.bs b o e).1
 have hkind:∀ y∈ps.zip us,scope.names.lookup y.1=some .local∨(scope.names.lookup y.1=some .cell∧((cellsFrom (s.heap.objs.size+1) scope.names []).lookup y.1).isSome=true):=fun ⟨n,v⟩ hy=>by
  rcases S.par n (List.of_mem_zip hy).1 with q | q
  ·exact .inl q
  ·exact .inr ⟨q,PySem.W.cellsFrom_some _ _ _ (.inl q)⟩
 refine codeAny_call_function hr.depth (KX _ _ lk) rfl S.co S.gen rfl (PySem.W.codeRec_of KX hcd) (hb _ _ _ _ ?_)
 refine wpAny_newFunctionEnv_cells S.kind hkind fun env he s1 x=>?_
 subst he
 refine⟨lim.keeps x.toInCall.keep,codeAny_func ?_⟩
 obtain⟨t,ht,hq⟩:=hbody A outer s H vs Q E (hr.deeper _) hsp
 have I:Inv (cxOf CX P w K mg base N qual scope f cdv A outer s H E) [] (start N vs) H s1:=inv_start S hr.hd e0 hl r x
 refine wpAny_mono (ht [] s1 (start N vs) H _ I hq) (fun fl s' hs=>?_) fun e s' hs=>hs
 have fin:∀ {σ':St}{H':Hp}{v:V}{u:Value},Inv (cxOf CX P w K mg base N qual scope f cdv A outer s H E) [] σ' H' s'→RelV v u→Q v H'→CE outer P w H s Q u s' :=
  fun {σ' H' v u} J rv q=>⟨v,H',J.os,J.bare,J.base,J.hok,rv,q⟩
 cases fl with
 | ret u =>
  obtain⟨v,σ',H',J,rv,q⟩:=hs
  exact fin J rv q
 | next =>
  obtain⟨σ',H',J,q⟩:=hs
  exact fin (v:=V.non) (u:=Value.none) J rfl q
 | brk =>
  obtain⟨_,_,_,q⟩:=hs
  exact False.elim q
 | cont =>
  obtain⟨_,_,_,q⟩:=hs
  exact False.elim q
end L2
namespace L2
open PySem PySem.Spec PyProof.Rows
section
variable {X:Cx}{x:Str}{p pos:Pos}{e:Expr}{es:List Expr}{t:TA}{id T:String}{r:List V→Hp→VK→Prop}
def tCB (r:List V→Hp→VK→Prop)(t:TA):TE:=fun σ H Q=>t σ H fun vs H1=>r vs H1 Q
theorem zQ (hc:j4 X (.builtin id) r)(hg:Gl X x)(hm:X.mg x=none)(hv:bootBuiltins x=some (.builtin id))(ha:PA X (e::es) t)(hn:x≠"__name__":=by decide)(hdb:(x == ("__debug__":Str))=false:=by decide)
  (he:starEach (e::es) X.env=(false,eval e X.env)::starEach es X.env:=by rfl)(hpl:(backTo pos (starEach es X.env)).any (·.1)=false:=by rfl):PE X (.Call (.Name x p) (e::es) [] pos) (tCB r t):=by
 intro pins s σ H Q I h
 refine wpAny_Call_Name_kw (zAq I hg hm hv ?_ hn hdb)
 exact PyProof.Rows.callWith_builtin1 (thn (ha pos pins s σ H _ I h) fun us s1 ⟨vs,H1,I1,r1,q1⟩=>hc pins s1 σ H1 vs us Q I1 r1 q1) he hpl
theorem zBk (hc:j4 X (.type T) r)(hg:Gl X x)(hm:X.mg x=none)(hv:bootBuiltins x=some (.type T))(ha:PA X (e::es) t)(hn:x≠"__name__":=by decide)(hdb:(x == ("__debug__":Str))=false:=by decide)
  (he:starEach (e::es) X.env=(false,eval e X.env)::starEach es X.env:=by rfl)(hpl:(backTo pos (starEach es X.env)).any (·.1)=false:=by rfl):PE X (.Call (.Name x p) (e::es) [] pos) (tCB r t):=by
 intro pins s σ H Q I h
 refine wpAny_Call_Name_kw (zAq I hg hm hv ?_ hn hdb)
 exact PyProof.Rows.callWith_type1 (thn (ha pos pins s σ H _ I h) fun us s1 ⟨vs,H1,I1,r1,q1⟩=>hc pins s1 σ H1 vs us Q I1 r1 q1) he hpl
end
end L2
namespace HT
open PySem PyProof.Rows
section
open PySem.SeqAt
open PySem.AutoSeq1 (wpAny_loadPart')
open PySem.MeetsSeq PySem.MeetsSeq2 PySem.MeetsSeq3
end
section
variable {prog:Program}{w:World}{A:Around}{E:Value→Shared→Prop}{s:Shared}
def sIx (n d:Nat):Option Int→Nat
 | none=>d
 | some v=>if v < 0 then (v+(n:Int)).toNat else min v.toNat n
end
end HT
namespace L2
open PySem PySem.Spec PyProof.Rows
abbrev TO:=St→Hp→(Option Int→Hp→Prop)→Prop
def PO (X:Cx)(e:Option Expr)(t:TO):Prop :=
 ∀ (pins:List (Addr×Obj))(s:Shared)(σ:St)(H:Hp)(Q:Option Int→Hp→Prop),Inv X pins σ H s→t σ H Q →
  wpAny (model X.prog X.w) X.A (evalPart e X.env) (fun u s'=>∃ o H',Inv X pins σ H' s'∧IsPart u o∧Q o H') X.xe s
def tPart (t:TE):TO:=fun σ H Q=>t σ H fun x H1=>∃ i,x=.int i∧Q (some i) H1
section
variable {X:Cx}{e:Expr}{te:TE}{lo hi:Option Expr}{tl th:TO}{pos p2:Pos}
theorem po_some (h:PE X e te):PO X (some e) (tPart te):=by
 intro pins s σ H Q I hw
 rw[evalPart_some]
 refine thn (h pins s σ H _ I hw) fun u s1 ⟨x,H1,I1,r1,q1⟩=>?_
 obtain⟨i,rfl,q⟩:=q1
 obtain⟨t,rfl⟩:=r1
 exact⟨some i,H1,I1,.int i t,q⟩
def SlR (X:Cx)(r:V→Option Int→Option Int→Hp→VK→Prop):Prop :=
 ∀ (pins:List (Addr×Obj))(s:Shared)(σ:St)(H:Hp)(x:V)(v vl vu:Value)(lo hi:Option Int)(sl:Addr)(Q:VK),Inv X pins σ H s→RelV x v→s.heap.IsSliceOf sl vl vu .none→IsPart vl lo→IsPart vu hi→r x lo hi H Q →
  ∃ T id,typeLookup (.type T) "__getitem__"=pure (some (.builtin id))∧s.TypeIs v T∧wpAny (model X.prog X.w) X.A (getItem v (.ref sl)) (EP X pins σ Q) X.xe s
theorem SlR.or {r r':V→Option Int→Option Int→Hp→VK→Prop}(h:SlR X r)(h':SlR X r'):SlR X (fun x lo hi H Q=>r x lo hi H Q∨r' x lo hi H Q):=by
 intro pins s σ H x v vl vu lo hi sl Q I rx hs pl pu q
 rcases q with q | q
 ·exact h pins s σ H x v vl vu lo hi sl Q I rx hs pl pu q
 ·exact h' pins s σ H x v vl vu lo hi sl Q I rx hs pl pu q
def tSl (r:V→Option Int→Option Int→Hp→VK→Prop)(te:TE)(tl th:TO):TE:=fun σ H Q=>te σ H fun x H1=>tl σ H1 fun l H2=>th σ H2 fun u H3=>r x l u H3 Q
theorem pe_slice {r:V→Option Int→Option Int→Hp→VK→Prop}(hr:SlR X r)(he:PE X e te)(hl:PO X lo tl)(hu:PO X hi th):PE X (.Subscript e (.Slice lo hi none p2) pos) (tSl r te tl th):=by
 intro pins s σ H Q I h
 refine Subscript_ (thn (he pins s σ H _ I h) fun v s1 ⟨x,H1,I1,r1,q1⟩=>?_)
 refine wpAny_Slice (thn (hl pins s1 σ H1 _ I1 q1) fun vl s2 ⟨l,H2,I2,pl,q2⟩=>thn (hu pins s2 σ H2 _ I2 q2) fun vu s3 ⟨u,H3,I3,pu,q3⟩=>?_)
 rw[evalPart_none]
 refine wpAny_pure ?_
 have I4:Inv X pins σ H3 { s3 with heap:=s3.heap.push { cls:=.type "slice",data:=.fields #[vl,vu,.none] } }:=I3.kept (t':=s3.toks) fun b ob q=>Heap.get?_push_of_some _ q
 obtain⟨T,id,hT,ht,hg⟩:=hr pins { s3 with heap:=s3.heap.push { cls:=.type "slice",data:=.fields #[vl,vu,.none] } } σ H3 x v vl vu l u s3.heap.objs.size Q I4 r1 (Heap.IsSliceOf.new ..) pl pu q3
 show wpAny (model X.prog X.w) X.A (subscriptTail e (.Slice lo hi none p2) v (.ref s3.heap.objs.size)) (EP X pins σ Q) X.xe { s3 with heap:=s3.heap.push { cls:=.type "slice",data:=.fields #[vl,vu,.none] } }
 exact tail_any (ops:=[.ref s3.heap.objs.size,v]) ht hT hg (by with_unfolding_all rfl)
def cutV (xs:List V)(lo hi:Option Int):List V:=(xs.drop (HT.sIx xs.length 0 lo)).take (HT.sIx xs.length xs.length hi-HT.sIx xs.length 0 lo)
theorem cutV_length (xs:List V)(lo hi:Option Int):(cutV xs lo hi).length≤xs.length:=by
 unfold cutV
 rw[List.length_take,List.length_drop]
 omega
end
end L2
namespace L2
open PySem PySem.Spec PyProof.Rows
def ixN (n:Nat)(i:Int):Option Nat:=if 0≤i then (if i < n then some i.toNat else none) else if -(n:Int)≤i then some (i+n).toNat else none
def atI {α:Type}(xs:List α)(i:Int):Option α:=(ixN xs.length i).bind fun j=>xs[j]?
theorem ixN_seq {n:Nat}{i:Int}{j:Nat}(h:ixN n i=some j):seqIndex? i n=some j∧j < n∧-(n:Int)≤i∧i < n:=by
 unfold ixN at h
 by_cases h0:0≤i
 ·rw[if_pos h0] at h
  by_cases h1:i < n
  ·rw[if_pos h1] at h
   have e:i.toNat=j:=Option.some.inj h
   exact⟨by rw[seqIndex_of h0 h1,e],by omega,by omega,h1⟩
  ·rw[if_neg h1] at h;cases h
 ·rw[if_neg h0] at h
  by_cases h1:-(n:Int)≤i
  ·rw[if_pos h1] at h
   have e:(i+n).toNat=j:=Option.some.inj h
   exact⟨by rw[seqIndex_neg (by omega) h1,e],by omega,h1,by omega⟩
  ·rw[if_neg h1] at h;cases h
theorem atI_get {α:Type}{xs:List α}{i:Int}{v:α}(h:atI xs i=some v):∃ j,seqIndex? i xs.length=some j∧xs[j]?=some v∧j < xs.length∧-(xs.length:Int)≤i∧i < xs.length:=by
 unfold atI at h
 cases e:ixN xs.length i with
 | none=>rw[e] at h;cases h
 | some j =>
  rw[e] at h
  obtain⟨h1,h2,h3,h4⟩:=ixN_seq e
  exact⟨j,h1,h,h2,h3,h4⟩
theorem atI_nat {α:Type}{xs:List α}{j:Nat}{v:α}(h:xs[j]?=some v):atI xs (j:Int)=some v:=by
 have hj:j < xs.length:=(List.getElem?_eq_some_iff.mp h).1
 have e:ixN xs.length (j:Int)=some j:=by
  unfold ixN
  rw[if_pos (by omega),if_pos (by omega)];simp
 unfold atI;rw[e];exact h
def PlainIx (b:Expr):Prop:=∀ o i,subscripted b false o i=operate [o,i] (getItem o i)
def IxR (X:Cx)(r:R2):Prop :=
 ∀ (value slice:Expr)(pins:List (Addr×Obj))(s:Shared)(σ:St)(H:Hp)(x y:V)(v u:Value)(Q:VK),Inv X pins σ H s→RelV x v→RelV y u→r x y H Q →
  subscripted slice false v u=operate [v,u] (getItem v u)→wpAny (model X.prog X.w) X.A (subscriptTail value slice v u) (EP X pins σ Q) X.xe s
def MtR (X:Cx)(id:String)(r:V→List V→Hp→VK→Prop):Prop :=
 ∀ (pins:List (Addr×Obj))(s:Shared)(σ:St)(H:Hp)(x:V)(xs:List V)(v:Value)(us:List Value)(Q:VK),Inv X pins σ H s→RelV x v→Vals xs us→r x xs H Q →
  wpAny (model X.prog X.w) X.A (call (.builtin id) (v::us)) (EP X pins σ Q) X.xe s
section
variable {X:Cx}{a b:Expr}{ta tb:TE}{pos:Pos}
theorem IxR.or {r r':R2}(h:IxR X r)(h':IxR X r'):IxR X (fun x y H Q=>r x y H Q∨r' x y H Q):=by
 intro value slice pins s σ H x y v u Q I rx ry q hs
 rcases q with q | q
 ·exact h value slice pins s σ H x y v u Q I rx ry q hs
 ·exact h' value slice pins s σ H x y v u Q I rx ry q hs
theorem MtR.or {id:String}{r r':V→List V→Hp→VK→Prop}(h:MtR X id r)(h':MtR X id r'):MtR X id (fun x xs H Q=>r x xs H Q∨r' x xs H Q):=by
 intro pins s σ H x xs v us Q I rx rs q
 rcases q with q | q
 ·exact h pins s σ H x xs v us Q I rx rs q
 ·exact h' pins s σ H x xs v us Q I rx rs q
theorem vE {r:R2}(hr:IxR X r)(ha:PE X a ta)(hb:PE X b tb)(hs:PlainIx b):PE X (.Subscript a b pos) (tOp r ta tb):=by
 intro pins s σ H Q I h
 exact Subscript_ (binT ha hb I h fun v u s2 x y H2 I2 rx ry q=>hr a b pins s2 σ H2 x y v u Q I2 rx ry q (hs _ _))
def rIxL (K:PySem.W.Frag):R2:=fun x y H Q=>∃ p xs i v,x=.ref p∧y=.int i∧SqL K H p xs∧atI xs i=some v∧Q v H
def rIxT (K:PySem.W.Frag):R2:=fun x y H Q=>∃ p xs i v,x=.ref p∧y=.int i∧SqT K H p xs∧atI xs i=some v∧Q v H
def rIxS:R2:=fun x y H Q=>∃ z i c,x=.str z∧y=.int i∧z.length≤sizeLine∧atI z.cps.toList i=some c∧Q (.str ⟨#[c]⟩) H
theorem jZ:IxR X (rIxL X.K):=by
 intro value slice pins s σ H x y v u Q I rx ry h hs
 obtain⟨p,xs,i,z,rfl,rfl,hq,he,q⟩:=h
 cases rx
 obtain⟨t,rfl⟩:=ry
 obtain⟨its,r,pl,hz⟩:=I.list hq
 obtain⟨j,h1,h2,h3,h4,h5⟩:=atI_get he
 obtain⟨w,ew,rw'⟩:=r.get h2
 have hl:=r.length
 have hn:=line63
 have fin:EP X pins σ Q w s:=⟨z,H,I,rw',q⟩
 by_cases h0:0≤i
 ·have hj:i.toNat=j:=by
   rw[seqIndex_of h0 h5] at h1
   exact Option.some.inj h1
  exact item_listR pl.isList h0 (by omega) (by rw[hj];simpa using ew) fin hs
 ·have hj:(i+(its.toArray.size:Int)).toNat=j:=by
   rw[seqIndex_neg (by omega) h4] at h1
   rw[List.size_toArray,← hl]
   exact Option.some.inj h1
  exact subscriptTail_builtinR (x:=w) pl.isList.typeIs slot_list_getitem.lookup
   (wpAny_getItem_list_neg (Q:=fun r s'=>r=w∧EP X pins σ Q r s') pl.isList (by omega) (by rw[List.size_toArray] <;> omega) (by omega) (by rw[hj];simpa using ew) ⟨rfl,fin⟩) hs
theorem zX:IxR X (rIxT X.K):=by
 intro value slice pins s σ H x y v u Q I rx ry h hs
 obtain⟨p,xs,i,z,rfl,rfl,hq,he,q⟩:=h
 cases rx
 obtain⟨t,rfl⟩:=ry
 obtain⟨its,r,pl,hz⟩:=I.tuple hq
 obtain⟨j,h1,h2,h3,h4,h5⟩:=atI_get he
 obtain⟨w,ew,rw'⟩:=r.get h2
 have hl:=r.length
 have hn:=line63
 have fin:EP X pins σ Q w s:=⟨z,H,I,rw',q⟩
 exact subscriptTail_builtinR (x:=w) pl.typeIs slot_tuple_getitem.lookup
  (getItem_tuple (j:=j) (Q:=fun r s'=>r=w∧EP X pins σ Q r s') pl (by omega) (by omega) (by rw[List.size_toArray,← hl];exact h1) (by simpa using ew) ⟨rfl,fin⟩) hs
theorem ix_str:IxR X rIxS:=by
 intro value slice pins s σ H x y v u Q I rx ry h hs
 obtain⟨z,i,c,rfl,rfl,hz,he,q⟩:=h
 obtain⟨t,rfl⟩:=rx
 obtain⟨t',rfl⟩:=ry
 obtain⟨j,h1,h2,h3,h4,h5⟩:=atI_get he
 have hl:z.cps.toList.length=z.length:=by simp [Str.length]
 rw[hl] at h1 h4 h5
 have hn:=line63
 exact tail_any (typeIs_str s z t) slot_str_getitem.lookup (getItem_str (c:=c) (by
  have e1:decide (i < -(2^63:Int))=false:=decide_eq_false (by omega)
  have e2:decide (i ≥ 2^63)=false:=decide_eq_false (by omega)
  rw[e1,e2,Bool.or_false]) (by rw[h1];simpa using h2) ⟨.str ⟨#[c]⟩,H,I.tok _,⟨_,rfl⟩,q⟩) hs
def rIx (K:PySem.W.Frag):R2:=fun x y H Q=>rIxL K x y H Q∨rIxT K x y H Q∨rIxS x y H Q
theorem ix_seq:IxR X (rIx X.K):=jZ.or (zX.or ix_str)
theorem mapSeq_set (its:List Value)(n j:Nat)(u:Value):Obj.mapSeq (·.setIfInBounds j u) { cls:=.type "list",data:=.seq its.toArray n }={ cls:=.type "list",data:=.seq (its.set j u).toArray n }:=by
 simp [Obj.mapSeq]
theorem Inv.lst {pins:List (Addr×Obj)}{σ:St}{H:Hp}{s:Shared}{p:Addr}{xs:List V}(I:Inv X pins σ H s)(h:H p=some (.lst xs)) :
  ∃ (its:List Value)(n:Nat),Vals xs its∧s.heap.get? p=some { cls:=.type "list",data:=.seq its.toArray n }∧xs.length≤sizeLine:=by
 obtain⟨z,its,n,r,e⟩:=I.hok p _ h
 exact⟨its,n,r,e,z⟩
theorem Inv.lstUpd {pins:List (Addr×Obj)}{σ:St}{H:Hp}{s:Shared}{p:Addr}{xs ys:List V}{its its':List Value}{n n':Nat}{f:Obj→Obj}(I:Inv X pins σ H s)(h:H p=some (.lst xs))
  (ho:s.heap.get? p=some { cls:=.type "list",data:=.seq its.toArray n })(hf:f { cls:=.type "list",data:=.seq its.toArray n }={ cls:=.type "list",data:=.seq its'.toArray n' })(r:Vals ys its')(hz:ys.length≤sizeLine)(t:Nat) :
  Inv X pins σ (upd H p (.lst ys)) { s with heap:=s.heap.update p f,toks:=t }:=by
 have e:(s.heap.update p f).get? p=some { cls:=.type "list",data:=.seq its'.toArray n' }:=by
  rw[Heap.get?_update_self f ho (by rw[hf] <;> rfl),hf]
 refine I.write (x:=p) (e:=p) (by rw[h];trivial) (.inl rfl) (fun b u hb q=>(Heap.get?_update_other _ _ (Ne.symm hb)).trans q) ⟨_,e⟩ ?_
 exact⟨hz,its',n',r,e⟩
def rSetL:V→V→V→Hp→(Hp→Prop)→Prop:=fun o i v H Q=>∃ p xs k j,o=.ref p∧i=.int k∧H p=some (.lst xs)∧ixN xs.length k=some j∧Q (upd H p (.lst (xs.set j v)))
theorem set_list:PSet X rSetL:=by
 intro pins s σ H o i v ov iv u Q I ro ri rv h
 obtain⟨p,xs,k,j,rfl,rfl,hp,hj,q⟩:=h
 cases ro
 obtain⟨t,rfl⟩:=ri
 obtain⟨its,n,r,ho,hz⟩:=I.lst hp
 obtain⟨h1,h2,h3,h4⟩:=ixN_seq hj
 have hl:=r.length
 have hn:=line63
 have I':Inv X pins σ (upd H p (.lst (xs.set j v))) { s with heap:=s.heap.update p (Obj.mapSeq (·.setIfInBounds j u)) } :=
  I.lstUpd hp ho (mapSeq_set its n j u) (r.set rv j) (by rw[List.length_set];exact hz) s.toks
 by_cases h0:0≤k
 ·have hk:k.toNat=j:=by
   rw[seqIndex_of h0 h4] at h1
   exact Option.some.inj h1
  exact PySem.W.ki_setAt ho h0 (by omega) (by rw[List.size_toArray,← hl];exact h4) (by rw[hk];exact⟨_,I',q⟩)
 ·have hk:(k+(its.toArray.size:Int)).toNat=j:=by
   rw[seqIndex_neg (by omega) h3] at h1
   rw[List.size_toArray,← hl]
   exact Option.some.inj h1
  exact PySem.W.ki_setBack ho (by omega) (by rw[List.size_toArray,← hl];exact h3) (by omega) (by rw[hk];exact⟨_,I',q⟩)
theorem slice_bounds (lo hi:Option Int)(n:Nat):(sliceBounds lo hi none n).1=((HT.sIx n 0 lo:Nat):Int)∧(sliceBounds lo hi none n).2.1=((HT.sIx n n hi:Nat):Int)∧(sliceBounds lo hi none n).2.2=1:=by
 refine⟨?_,?_,rfl⟩
 ·cases lo with
  | none=>simp [sliceBounds,HT.sIx]
  | some i =>
   simp only [sliceBounds,HT.sIx,Option.getD_none,show (1:Int) > 0 by decide,if_true]
   by_cases h:i < 0
   ·simp only [h,if_true] <;> omega
   ·simp only [h,if_false] <;> omega
 ·cases hi with
  | none=>simp [sliceBounds,HT.sIx]
  | some i =>
   simp only [sliceBounds,HT.sIx,Option.getD_none,show (1:Int) > 0 by decide,if_true]
   by_cases h:i < 0
   ·simp only [h,if_true] <;> omega
   ·simp only [h,if_false] <;> omega
theorem slicePick_cut (its:List Value)(lo hi:Option Int):slicePick its.toArray lo hi none=((its.drop (HT.sIx its.length 0 lo)).take (HT.sIx its.length its.length hi-HT.sIx its.length 0 lo)).toArray:=by
 obtain⟨h1,h2,h3⟩:=slice_bounds lo hi its.toArray.size
 unfold slicePick
 rw[h1,h2,h3]
 simp only [sliceRange_one,pick_run,List.size_toArray] <;> rfl
def rSlL (K:PySem.W.Frag):V→Option Int→Option Int→Hp→VK→Prop:=fun x lo hi H Q=>∃ a xs,x=.ref a∧SqL K H a xs∧∀ p,H p=none→Q (.ref p) (upd H p (.lst (cutV xs lo hi)))
theorem sl_list:SlR X (rSlL X.K):=by
 intro pins s σ H x v vl vu lo hi sl Q I rx hs pl pu h
 obtain⟨a,xs,rfl,hx,q⟩:=h
 cases rx
 obtain⟨its,r,ht,hz⟩:=I.list hx
 have hlen:=r.length
 refine⟨"list",_,slot_list_getitem.lookup,ht.isList.typeIs,?_⟩
 refine wpAny_getItem_list_slice ht.isList hs pl pu .none (by simp) ?_ (by rw[List.size_toArray] <;> omega)
 rw[slicePick_cut,← hlen]
 refine⟨.ref s.heap.objs.size,_,I.laid (t':=s.toks) (o:=.lst (cutV xs lo hi)) (fun b ob q=>Heap.get?_push_of_some _ q) (Nat.le_refl _) ?_,rfl,q _ (I.hok.fresh (Nat.le_refl _))⟩
 exact⟨Nat.le_trans (cutV_length xs lo hi) hz,_,0,(r.drop (HT.sIx xs.length 0 lo)).take (HT.sIx xs.length xs.length hi-HT.sIx xs.length 0 lo),Heap.get?_push_size _ rfl⟩
theorem zU:j4 X (.builtin "len") (fun xs H Q=>∃ p ys,xs=[.ref p]∧(SqL X.K H p ys∨SqT X.K H p ys)∧Q (.int ys.length) H):=by
 intro pins s σ H xs us Q I r h
 obtain⟨p,ys,rfl,hq,q⟩:=h
 obtain⟨u,rfl,rx⟩:=vals1 r
 cases rx
 have hn:=line63
 rcases hq with hq | hq
 ·obtain⟨its,r',pl,hz⟩:=I.list hq
  have hlen:=r'.length
  exact Calls.call_len_list pl.isList (by simp only [List.size_toArray] <;> omega) ⟨.int ys.length,H,I.tok _,⟨s.toks+1,by rw[List.size_toArray,hlen]⟩,q⟩
 ·obtain⟨its,r',pl,hz⟩:=I.tuple hq
  have hlen:=r'.length
  exact len_tuple pl (by simp only [List.size_toArray] <;> omega) ⟨.int ys.length,H,I.tok _,⟨s.toks+1,by rw[List.size_toArray,hlen]⟩,q⟩
theorem j4.or {f:Value}{r r':List V→Hp→VK→Prop}(h:j4 X f r)(h':j4 X f r'):j4 X f (fun xs H Q=>r xs H Q∨r' xs H Q):=by
 intro pins s σ H xs us Q I rs q
 rcases q with q | q
 ·exact h pins s σ H xs us Q I rs q
 ·exact h' pins s σ H xs us Q I rs q
theorem zCw:j4 X (.type "list") (fun xs H Q=>∃ p ys,xs=[.ref p]∧(SqL X.K H p ys∨SqT X.K H p ys)∧∀ l,H l=none→Q (.ref l) (upd H l (.lst ys))):=by
 intro pins s σ H xs us Q I r h
 obtain⟨p,ys,rfl,hq,q⟩:=h
 obtain⟨u,rfl,rx⟩:=vals1 r
 cases rx
 have fin:∀ (its:List Value),Vals ys its→ys.length≤sizeLine→∀ (h':Heap)(c':Nat),(∀ b o',s.heap.get? b=some o'→h'.get? b=some o') →
   h'.get? s.heap.objs.size=some { cls:=.type "list",dict:=none,data:=.seq its.toArray c',slots:=#[] }→EP X pins σ Q (.ref s.heap.objs.size) { s with heap:=h' }:=fun its r' hz h' c' kp e =>
  ⟨.ref s.heap.objs.size,_,I.laid (t':=s.toks) kp (Nat.le_refl _) (show vY X.prog X.w _ h' _ (.lst ys) from ⟨hz,its,c',r',e⟩),rfl,q _ (I.hok.fresh (Nat.le_refl _))⟩
 rcases hq with hq | hq
 ·obtain⟨its,r',pl,hz⟩:=I.list hq
  have hlen:=r'.length
  obtain⟨o,ho,hc,n,hd⟩:=pl.isList
  exact call_list_seq p (.inl rfl) ho hc hd (fun h' c' kp e=>fin its r' hz h' c' kp e) (by simp only [List.size_toArray] <;> omega)
 ·obtain⟨its,r',pl,hz⟩:=I.tuple hq
  have hlen:=r'.length
  obtain⟨o,ho,hc,n,hd⟩:=pl
  exact call_list_seq p (.inr rfl) ho hc hd (fun h' c' kp e=>fin its r' hz h' c' kp e) (by simp only [List.size_toArray] <;> omega)
theorem call_tuple_of:j4 X (.type "tuple") (fun xs H Q=>∃ p ys,xs=[.ref p]∧((SqL X.K H p ys∧∀ l,H l=none→Q (.ref l) (upd H l (.tup ys)))∨(SqT X.K H p ys∧Q (.ref p) H))):=by
 intro pins s σ H xs us Q I r h
 obtain⟨p,ys,rfl,h⟩:=h
 obtain⟨u,rfl,rx⟩:=vals1 r
 cases rx
 rcases h with ⟨hq,q⟩ | ⟨hq,q⟩
 ·obtain⟨its,r',pl,hz⟩:=I.list hq
  have hlen:=r'.length
  refine call_tuple_list pl.isList (fun h' kp=>?_) (by simp only [List.size_toArray] <;> omega)
  have I1:Inv X pins σ H { s with heap:=h' }:=I.kept (t':=s.toks) kp
  have I2:Inv X pins σ (upd H h'.objs.size (.tup ys)) { s with heap:=h'.push { cls:=.type "tuple",data:=.seq its.toArray } } :=
   I1.laid (t':=s.toks) (fun b o e=>Heap.get?_push_of_some _ e) (Nat.le_refl _) (show vY X.prog X.w _ _ _ (.tup ys) from ⟨hz,its,r',IsTup.new _ _⟩)
  exact⟨.ref h'.objs.size,_,I2,rfl,q _ (I1.hok.fresh (Nat.le_refl _))⟩
 ·obtain⟨its,r',pl,hz⟩:=I.tuple hq
  exact call_tuple_same pl ⟨.ref p,H,I,rfl,q⟩
def tyV (K:PySem.W.Frag)(T:String)(x:V)(H:Hp):Prop:=match x with
 | .str _=>T = "str"
 | .int _=>T = "int"
 | .ref p=>(T = "list"∧∃ xs,SqL K H p xs)∨(T = "tuple"∧∃ o,K.lookup p=some o∧o.cls=.type "tuple"∧o.dict=none) ∨
   (T = "dict"∧((∃ kvs,H p=some (.dK kvs))∨∃ kvs,H p=some (.dT kvs)))∨(T = "set"∧∃ S n,H p=some (.set S n))
 | _=>False
theorem tyV_is {pins:List (Addr×Obj)}{σ:St}{H:Hp}{s:Shared}{T:String}{x:V}{v:Value}(I:Inv X pins σ H s)(r:RelV x v)(ty:tyV X.K T x H) :
  s.TypeIs v T∧∀ a,v=.ref a→∃ ob,s.heap.get? a=some ob∧ob.dict=none:=by
 cases x with
 | str z =>
  obtain⟨t,rfl⟩:=r
  cases (show T = "str" from ty)
  exact⟨typeIs_str s z t,fun _ e=>nomatch e⟩
 | int i =>
  obtain⟨t,rfl⟩:=r
  cases (show T = "int" from ty)
  exact⟨typeIs_int s i t,fun _ e=>nomatch e⟩
 | ref p =>
  cases r
  rcases ty with ⟨rfl,xs,hq⟩ | ⟨rfl,o,hk,hc,hd⟩ | ⟨rfl,hk⟩ | ⟨rfl,S,n,hk⟩
  ·obtain⟨its,_,pl,_⟩:=I.list hq
   refine⟨pl.isList.typeIs,fun a e=>?_⟩
   cases e
   obtain⟨o,n,e,c,hd,_⟩:=pl
   exact⟨o,e,hd⟩
  ·refine⟨⟨o,I.kIn p o hk,hc⟩,fun a e=>?_⟩
   cases e
   exact⟨o,I.kIn _ o hk,hd⟩
  ·have z:∃ o,s.heap.get? p=some o∧o.ExactDict:=by
    rcases hk with ⟨kvs,hk⟩ | ⟨kvs,hk⟩
    ·obtain⟨_,_,_,_,o,_,_,e,ex,_⟩:=I.hok p _ hk
     exact⟨o,e,ex⟩
    ·obtain⟨_,_,_,_,o,_,_,e,ex,_⟩:=I.hok p _ hk
     exact⟨o,e,ex⟩
   obtain⟨o,e,ex⟩:=z
   refine⟨⟨o,e,ex.1⟩,fun a e2=>?_⟩
   cases e2
   exact⟨o,e,ex.2.1⟩
  ·obtain⟨o,_,_,_,e,ex,_⟩:=I.hok p _ hk
   refine⟨⟨o,e,ex.1⟩,fun a e2=>?_⟩
   cases e2
   exact⟨o,e,ex.2.1⟩
 | _=>exact False.elim ty
def tBM0 (K:PySem.W.Frag)(T:String)(r:V→List V→Hp→VK→Prop)(to:TE):TE:=fun σ H Q=>to σ H fun x H1=>tyV K T x H1∧r x [] H1 Q
def tBM (K:PySem.W.Frag)(T:String)(r:V→List V→Hp→VK→Prop)(to:TE)(t:TA):TE:=fun σ H Q=>to σ H fun x H1=>tyV K T x H1∧t σ H1 fun xs H2=>r x xs H2 Q
variable {o e:Expr}{es:List Expr}{to:TE}{t:TA}{name:Str}{apos cpos:Pos}{T id:String}{r:V→List V→Hp→VK→Prop}
theorem pe_bm0 (pa:PlainAttrs T)(slot:Slot T name id)(hty:typeOf (.builtin id)=pure (.type "method_descriptor"))(hm:MtR X id r)(ho:PE X o to)
  (hbase:attributeBase o name X.env (eval o X.env)=eval o X.env:=by rfl)(hline:(apos.endLine == cpos.line)=true:=by rfl):PE X (.Call (.Attribute o name apos) [] [] cpos) (tBM0 X.K T r to):=by
 intro pins s σ H Q I h
 refine wpAny_Call_method0_late hbase hline (thn (ho pins s σ H _ I h) fun v s1 ⟨x,H1,I1,r1,ty,q1⟩=>?_)
 obtain⟨h1,h2⟩:=tyV_is I1 r1 ty
 exact⟨T,id,pa,slot,hty,h1,h2,Calls.callWith_builtin rfl (PySem.evalArgs_none (hm pins s1 σ H1 x [] v [] Q I1 r1 .nil q1))⟩
theorem pe_bm (pa:PlainAttrs T)(slot:Slot T name id)(hty:typeOf (.builtin id)=pure (.type "method_descriptor"))(hm:MtR X id r)(ho:PE X o to)(ha:PA X (e::es) t)
  (hbase:attributeBase o name X.env (eval o X.env)=eval o X.env:=by rfl)
  (hfew:((backTo cpos (starEach (e::es) X.env)).all (fun x=>!x.1) && (backToKw cpos (keywordEach [] X.env)).all (fun x=>x.1.isSome)
   && decide ((e::es).length+([]:List Keyword).length+(if ([]:List Keyword).isEmpty then 0 else 1) < 30))=true:=by rfl)
  (hline:(apos.endLine == cpos.line)=true:=by rfl)(hs:starEach (e::es) X.env=(false,eval e X.env)::starEach es X.env:=by rfl)(hplain:(backTo cpos (starEach es X.env)).any (·.1)=false:=by rfl) :
  PE X (.Call (.Attribute o name apos) (e::es) [] cpos) (tBM X.K T r to t):=by
 intro pins s σ H Q I h
 refine wpAny_Call_method_late hbase hfew hline rfl (thn (ho pins s σ H _ I h) fun v s1 ⟨x,H1,I1,r1,ty,q1⟩=>?_)
 obtain⟨h1,h2⟩:=tyV_is I1 r1 ty
 refine⟨T,id,pa,slot,hty,h1,h2,?_⟩
 have hA:=ha cpos pins s1 σ H1 _ I1 q1
 rw[hs] at hA ⊢
 refine Calls.callWith_builtin (by show (false || (backTo cpos (starEach es X.env)).any (·.1))=false;rw[hplain] <;> rfl) (Calls.evalArgs_plain ?_)
 exact thn hA fun us s2 ⟨vs,H2,I2,r2,q2⟩=>hm pins s2 σ H2 x vs v us Q I2 r1 r2 q2
end
end L2
namespace L2
open PySem PySem.Spec PyProof.Rows
def MtM (X:Cx)(id:String)(r:V→List V→Hp→VK→Prop):Prop :=
 ∀ (pins:List (Addr×Obj))(s:Shared)(σ:St)(H:Hp)(x:V)(xs:List V)(v:Value)(us:List Value)(Q:VK),Inv X pins σ H s→RelV x v→Vals xs us→r x xs H Q →
  wpAny (model X.prog X.w) X.A (call (.builtin id) (v::us)) (EP X pins σ Q) X.xe s
theorem Vals.one:∀ {x:V}{us:List Value},Vals [x] us→∃ u,us=[u]∧RelV x u
 | _,_,.cons r .nil=>⟨_,rfl,r⟩
theorem Vals.two:∀ {x y:V}{us:List Value},Vals [x,y] us→∃ u v,us=[u,v]∧RelV x u∧RelV y v
 | _,_,_,.cons r (.cons q .nil)=>⟨_,_,rfl,r,q⟩
theorem Vals.zero:∀ {us:List Value},Vals [] us→us=[]
 | _,.nil=>rfl
theorem Vals.reverse {xs:List V}{us:List Value}(h:Vals xs us):Vals xs.reverse us.reverse:=by
 induction h with
 | nil=>exact .nil
 | cons r t ih=>rw[List.reverse_cons,List.reverse_cons];exact Vals.append ih (.cons r .nil)
theorem Vals.rep {xs:List V}{us:List Value}(h:Vals xs us):∀ k:Nat,Vals (List.replicate k xs).flatten (List.replicate k us).flatten
 | 0=>.nil
 | k+1=>by
  rw[List.replicate_succ,List.replicate_succ,List.flatten_cons,List.flatten_cons]
  exact Vals.append h (Vals.rep h k)
theorem foldl_rep (its:List Value):∀ (k:Nat)(acc:List Value),
  List.foldl (fun x1 x2=>x1 ++ x2) acc.toArray (List.replicate k its.toArray)=(acc ++ (List.replicate k its).flatten).toArray
 | 0,acc=>by simp
 | k+1,acc=>by
  have e:acc.toArray ++ its.toArray=(acc ++ its).toArray:=by simp
  have e2:(acc ++ its) ++ (List.replicate k its).flatten=acc ++ (List.replicate (k+1) its).flatten:=by
   rw[List.replicate_succ,List.flatten_cons,List.append_assoc]
  rw[← e2,← foldl_rep its k (acc ++ its),← e,List.replicate_succ,List.foldl_cons]
section
variable {X:Cx}{pins:List (Addr×Obj)}{σ:St}{H:Hp}{s:Shared}{l b:Addr}{xs ys zs:List V}
theorem Inv.lset {its its':List Value}{n:Nat}{f:Array Value→Array Value}{t':Nat}(I:Inv X pins σ H s)(hH:H l=some (.lst xs))
  (e:s.heap.get? l=some { cls:=.type "list",data:=.seq its.toArray n })(hf:f its.toArray=its'.toArray)(hv:Vals ys its')(hz:ys.length≤sizeLine) :
  Inv X pins σ (upd H l (.lst ys)) { s with heap:=s.heap.update l (Obj.mapSeq f),toks:=t' }:=by
 have q:=PySem.IsL.update e f
 rw[hf] at q
 refine I.write (x:=l) (e:=l) (by rw[hH];exact trivial) (.inl rfl) (fun b' u hb hu=>(Heap.get?_update_other s.heap (Obj.mapSeq f) (Ne.symm hb)).trans hu) ⟨_,q⟩ ?_
 exact⟨hz,its',_,hv,q⟩
theorem Inv.lnew {its:List Value}{t':Nat}(I:Inv X pins σ H s)(hv:Vals ys its)(hz:ys.length≤sizeLine) :
  Inv X pins σ (upd H s.heap.objs.size (.lst ys)) { s with heap:=s.heap.push { cls:=.type "list",data:=.seq its.toArray },toks:=t' } :=
 I.laid (fun _ _ q=>Heap.get?_push_of_some _ q) (Nat.le_refl _) ⟨hz,its,0,hv,Heap.get?_push_size _ rfl⟩
theorem Inv.fresh (I:Inv X pins σ H s):H s.heap.objs.size=none:=I.hok.fresh (Nat.le_refl _)
theorem Inv.lstM (I:Inv X pins σ H s)(hH:H l=some (.lst xs)):xs.length≤sizeLine∧∃ (its:List Value)(n:Nat),Vals xs its∧xs.length=its.length∧s.heap.get? l=some { cls:=.type "list",data:=.seq its.toArray n }:=by
 obtain⟨z,its,n,r,e⟩:=I.hok l _ hH
 exact⟨z,its,n,r,r.length,e⟩
theorem notLongL {n:Nat}(h:n≤sizeLine):Builtin.List.listTooLong n=false:=by
 unfold Builtin.List.listTooLong
 exact decide_eq_false (by omega)
end
section
variable {X:Cx}
def rAppend:V→List V→Hp→VK→Prop:=fun x vs H Q=>∃ l xs y,x=.ref l∧vs=[y]∧H l=some (.lst xs)∧xs.length < sizeLine∧Q .non (upd H l (.lst (xs ++ [y])))
theorem zBv:MtM X "list.append" rAppend:=by
 intro pins s σ H x vs v us Q I rx rv h
 obtain⟨l,xs,y,rfl,rfl,hH,hz,q⟩:=h
 cases rx
 obtain⟨u,rfl,ru⟩:=rv.one
 obtain⟨z,its,n,r,hl,e⟩:=I.lstM hH
 refine call_meets F.slot_list_append ⟨_,e,rfl⟩ F.entry_list_append (F.args_list_append_2 _ _) (PySem.list_append l its.toArray n u (by rw[List.size_toArray];omega)) ⟨e,?_⟩
 refine⟨.non,_,I.lset (its':=its ++ [u]) hH e (by simp) (r.append (.cons ru .nil)) ?_,rfl,q⟩
 rw[List.length_append,List.length_singleton]
 omega
def rRep:R2:=fun x y H Q=>∃ l k xs,x=.ref l∧y=.int k∧H l=some (.lst xs)∧-(2^63)≤k∧k < 2^63∧xs.length*k.toNat≤sizeLine ∧
 ∀ p,H p=none→Q (.ref p) (upd H p (.lst (List.replicate k.toNat xs).flatten))
theorem len_rep {α:Type}(xs:List α)(k:Nat):(List.replicate k xs).flatten.length=k*xs.length:=by
 induction k with
 | zero=>simp
 | succ k ih=>rw[List.replicate_succ,List.flatten_cons,List.length_append,ih,Nat.succ_mul,Nat.add_comm]
theorem op_rep:OpR X (binaryOp .Mult) rRep:=by
 intro pins s σ H x y v u Q I rx ry h
 obtain⟨l,k,xs,rfl,rfl,hH,h1,h2,hz,q⟩:=h
 cases rx
 obtain⟨t,rfl⟩:=ry
 obtain⟨z,its,n,r,hl,e⟩:=I.lstM hH
 have hlen:its.toArray.size*k.toNat≤sizeLine:=by rw[List.size_toArray,← hl];exact hz
 have hcap:¬ its.toArray.size*k.toNat > (2^63-1)/8:=by
  have:(sizeLine:Nat)≤(2^63-1)/8:=by decide
  omega
 have hfit:¬ (!Builtin.List.listFitsIndex k)=true:=by
  rw[fitsIndex_both h1 h2]
  exact Bool.false_ne_true
 have hlong:¬ Builtin.List.listTooLong (its.toArray.size*k.toNat)=true:=by
  rw[notLongL hlen]
  exact Bool.false_ne_true
 have hnew:List.foldl (fun x1 x2=>x1 ++ x2) #[] (List.replicate (if its.toArray.isEmpty=true then 0 else k.toNat) its.toArray)=(List.replicate k.toNat its).flatten.toArray:=by
  have f0:∀ m:Nat,List.foldl (fun x1 x2=>x1 ++ x2) #[] (List.replicate m its.toArray)=(List.replicate m its).flatten.toArray:=fun m=>by
   have:=foldl_rep its m []
   rw[List.nil_append] at this
   exact this
  rw[f0]
  cases its with
  | nil=>simp
  | cons a r'=>rw[if_neg (by simp)]
 refine wpAny_binaryOp_repeat_ref (T:="list") (U:="int") (by decide) ⟨_,e,rfl⟩ (fun s'=>typeIs_int s' k t) noFill_list_mul F.fills_int_mul F.slot_int_rmul repeat_list F.slot_int_index.lookup
  (call_meets F.slot_int_rmul (typeIs_int s k t) F.entry_int_rmul (F.args_int_rmul_2 _ _) (int___rmul___int_list k t l its.toArray n)
   ⟨e,rfl,⟨_,e,rfl⟩,call_meets F.slot_list_mul ⟨_,e,rfl⟩ F.entry_list_mul (F.args_list_mul_2 _ _) (AutoListH.list___mul___list_int_3 l its.toArray n k t hfit hcap hlong) ⟨e,?_⟩⟩)
 rw[hnew]
 exact⟨.ref _,_,I.lnew (t':=s.toks) (r.rep k.toNat) (by rw[len_rep,Nat.mul_comm];exact hz),rfl,q _ I.fresh⟩
end
section
variable {prog:Program}{w:World}{A:Around}{E:Value→Shared→Prop}{s:Shared}
end
section
variable {X:Cx}
end
end L2
namespace Att
open PySem PySem.W PySem.Calls PyProof.Rows
theorem zEj {P:Params}{h:Heap}:∀ (ns:List Int)(vs:List Value),WellAll P h vs (ns.map WData.int)→IntsAre vs ns:=by
 intro ns
 induction ns with
 | nil =>
  intro vs w
  rw[List.map_nil] at w
  cases w
  exact .nil
 | cons n ns ih =>
  intro vs w
  rw[List.map_cons] at w
  cases w with
  | cons a b =>
   cases a
   exact .cons _ _ (ih _ b)
theorem script_of {l:OpenLaw}{n:Nat}(hn:l.most=some n){P:Params}{h:Heap}{args:List WData}{vals:List Value}
  (hpre:l.row.toRowW.claim.pre args=true)(hwl:WellAll P h vals args) :
  ∃ a vs ns,vals=[Value.ref a]∧args=[WData.list (ns.map WData.int)]∧h.get? a=some { cls:=.type "list",data:=.seq vs.toArray }∧IntsAre vs ns∧ns.length≤n:=by
 have hsh:WShape.hasAll [] args [.list .int]=true:=(pre_splitW hpre).1
 have hc:l.pre.holds [] { args:=args }=true:=(pre_splitW hpre).2
 obtain⟨d,r,rfl,h1,h2⟩:=hasAllW_cons hsh
 obtain rfl:=hasAllW_nil h2
 obtain⟨xs,rfl,h3⟩:=hasW_list h1
 obtain⟨ns,rfl⟩:=items_int h3
 have hlen:ns.length≤n:=by
  unfold OpenLaw.pre at hc
  have h4:(WTm.not (.lt (.lit (.int (n:Int))) (.len (.arg 0)))).holds [] { args:=[.list (ns.map .int)] }=true:=by
   have h4:=(holds_andW hc).1
   rw[hn] at h4
   exact h4
  have h5:=condW_of h4 (w_not (w_lt w_lit (w_len_list (w_arg rfl))))
  rw[List.length_map] at h5
  refine Nat.le_of_not_lt fun q=>?_
  have q':(n:Int) < ((ns.length:Nat):Int):=by omega
  first
   | (rw[decide_eq_true q'] at h5;exact absurd h5 (by decide))
   | (simp at h5;omega)
 cases hwl with
 | cons w1 w2 =>
  cases w2
  cases w1 with
  | list ho hall=>exact⟨_,_,ns,rfl,rfl,ho,zEj ns _ hall,hlen⟩
theorem post_true (l:OpenLaw)(args:List WData):l.row.toRowW.claim.post args (.bool true) args=true :=
 postW_of (r:=l.row.toRowW) (X:=(true == true))
  (show WShape.has [] (.bool true) .bool=true by first | rfl | decide | simp [WShape.has,WShape.arms,WShape.armsAll])
  (show (WTm.eq .res (.lit (.bool true))).value [] { args:=args,res:=some (.bool true),after:=args }=some (.bool (true == true)) from w_eq_bool (w_res rfl) w_lit) rfl
theorem attach_call {l:OpenLaw}{n:Nat}{q:Program}{loose:List Str}{XP:(Str→Option Value)→Heap→Prop}{YP:World→Heap→Prop}{d:DefRec}
  (hn:l.most=some n)(hdf:d.params.defaults=[])
  (call:∀ (w:World)(s₀ s₁:Shared)(mg mb:Str→Option Value)(fa:Addr)(o:Obj)(pm cd doc:Value)(a:Addr)(vs:List Value)(ns:List Int),
   Ground q loose [] XP w s₀ mg mb s₁.heap→YP w s₁.heap →
   s₁.heap.get? fa=some o→o.data=.func (docDef d.name d.params d.body d.scope pm cd doc)→s₁.heap.CodeRec cd d.name→mg d.name=some (.ref fa) →
   s₁.heap.get? a=some { cls:=.type "list",data:=.seq vs.toArray }→IntsAre vs ns→ns.length≤n→s₁.gens=#[] →
   codeAny (model l.prog w) callerA (.call (.ref fa) ⟨[.ref a],[]⟩) (fun r s'=>r=.ok (.ret (.bool true))∧OldK s₁.heap s'.heap∧s'.os=s₁.os∧AllBare s'.gens) s₁) :
  WalkO q loose XP YP l.row.toRowW d [] (fun f vs=>PySem.call f vs):=by
 intro w s₀ s₁ mg mb G Y fa o pm cd doc dV kV ho hd hcd hD hmg hg args vals as hpre hlay hrd hwl hlo
 obtain rfl:dV=.none:=Dflts.none hD hdf
 obtain rfl:kV=.none:=Dflts.noKw hD
 obtain⟨a,vs,ns,rfl,rfl,hobj,hints,hlen⟩:=script_of hn hpre hwl
 refine enter_call (codeAny_mono (call w s₀ s₁ mg mb fa o pm cd doc a vs ns G Y ho (fd_plain hd) hcd hmg hobj hints hlen hg) fun r s' hq=>?_)
 obtain⟨rfl,h2,h3,h4⟩:=hq
 exact⟨.inl ⟨.bool true,.bool true,[],rfl,fun _=>rfl,.bool true,post_true l _,fun _=>⟨List.Pairwise.nil,fun _ hm=>(nomatch hm)⟩⟩,h2,h3,h4⟩
section
variable {prog:Program}{w:World}{A:Around}{E:Value→Shared→Prop}{s:Shared}{K:Frag}
end
end Att
namespace L2
open PySem PySem.Spec PyProof.Rows
theorem vals_ints:∀ {vs:List Value}{ns:List Int},IntsAre vs ns→Vals (ns.map V.int) vs
 | _,_,.nil=>.nil
 | _,_,.cons n t h=>.cons ⟨t,rfl⟩ (vals_ints h)
def Only (H:Hp):Prop:=∀ b,H b=none∨∃ o xs,H b=some (.frz o (.lst xs))
theorem law_call {P:Program}{w:World}{K:PySem.W.Frag}{mg mb:Str→Option Value}{CX:CXT}{k:Nat}{fa a:Addr}{fd:FuncData}{x:Str}{sp:Sp}{s₁:Shared}{vs:List Value}{ns:List Int}
  (KX:K.In s₁.heap)(hns:s₁.heap.Ns mainGlobals mg)(hb:s₁.heap.Ns builtinsNs mb)(hbb:∀ x:Str,x≠"__name__"→mb x=bootBuiltins x)(hlim:s₁.heap.NoLimit)(hg:s₁.gens=#[])
  (ha:s₁.heap.get? a=some { cls:=.type "list",data:=.seq vs.toArray })(hi:IntsAre vs ns)(hl:ns.length≤sizeLine)(hr:zBu k callerA)
  (F:∀ base:Heap,K.In base→base.Ns mainGlobals mg→zFo P w K mg base CX k fa fd [x] sp)(hbind:∀ (s:Shared)(u:Value),BindsTo s fd ⟨[u],[]⟩ [(x,u)])
  (hsp:∀ H:Hp,Only H→SqL K H a (ns.map V.int)→sp [.ref a] H (fun v _=>v=.bl true) fun _ _ _=>False)
  (hCX:∀ H e s',CX [] H s₁ (fun _ _ _=>False) e s'→False) :
  codeAny (model P w) callerA (.call (.ref fa) ⟨[.ref a],[]⟩) (fun r s'=>r=.ok (.ret (.bool true))∧OldK s₁.heap s'.heap∧s'.os=s₁.os∧AllBare s'.gens) s₁:=by
 have rv:=vals_ints hi
 have lenV:=hi.length
 -- from an abstract heap in which nothing but the script may be tracked
 have core:∀ H:Hp,Only H→SqL K H a (ns.map V.int)→HOk P w H s₁.heap→(∀ b,H b≠none→b=a)→(H a≠none→K.lookup a=none) →
   codeAny (model P w) callerA (.call (.ref fa) ⟨[.ref a],[]⟩) (fun r s'=>r=.ok (.ret (.bool true))∧OldK s₁.heap s'.heap∧s'.os=s₁.os∧AllBare s'.gens) s₁:=by
  intro H hO hS hok hA hK
  have base_of:∀ {b:Addr}{o:Obj},s₁.heap.get? b=some o→H b=none→(hidT s₁.heap H).get? b=some o:=fun e n=>hidT_get e n
  have noA:∀ {b:Addr}{o:Obj}{es:Array DictEntry}{ep:Nat},s₁.heap.get? b=some o→o.data=.dict es ep→H b=none:=fun {b o es ep} e d=>by
   cases q:H b with
   | none=>rfl
   | some u =>
    have e':b=a:=hA b (by rw[q];simp)
    subst e'
    rw[ha] at e;cases e
    have d':Data.seq vs.toArray _=Data.dict es ep:=d
    cases d'
  have nsK:∀ {b:Addr}{m:Str→Option Value},s₁.heap.Ns b m→(hidT s₁.heap H).Ns b m:=fun {b m} ⟨o,es,ep,e,d,r⟩=>⟨o,es,ep,base_of e (noA e d),d,r⟩
  have hKb:K.In (hidT s₁.heap H):=fun b o e=>base_of (KX b o e) (by
   cases q:H b with
   | none=>rfl
   | some u =>
    have e':b=a:=hA b (by rw[q];simp)
    subst e'
    rw[hK (by rw[q];simp)] at e;cases e)
  have hM:Mod K mg (hidT s₁.heap H):=⟨hKb,nsK hns,⟨mb,nsK hb,hbb⟩,let ⟨mc,h1,h2⟩:=hlim;⟨mc,nsK h1,h2⟩⟩
  have e0:Env0 P w K mg (hidT s₁.heap H) callerA [] s₁ H:=⟨rfl,hM,fun b o e=>of_hidT e,Nat.le_of_eq (hidT_size _ _),trivial,fun b hb=>absurd (show b∈([]:List Addr) from hb) (by simp),hok,.of_eq hg⟩
  refine codeAny_mono ((F _ hKb (nsK hns)).run callerA [] s₁ H ⟨[.ref a],[]⟩ [.ref a] [.ref a] _ _ hr e0 (hbind s₁ (.ref a)) (.cons rfl .nil) (hsp H hO hS)) fun r s' h=>?_
  cases r with
  | error e=>exact (hCX H e s' h).elim
  | ok fl =>
   cases fl with
   | next=>exact False.elim h
   | brk=>exact False.elim h
   | cont=>exact False.elim h
   | ret u =>
    obtain⟨v,H',os,bare,un,hok',r',q⟩:=h
    have q':v=.bl true:=q
    subst q'
    obtain rfl:u=Value.bool true:=r'
    refine⟨rfl,OldK.of_keep fun b o e=>?_,os,bare⟩
    cases q:H b with
    | none=>exact un.keep b o e q (by intro z;exact absurd (show b∈([]:List Addr) from z) (by simp)) (by simp)
    | some u =>
     rcases hO b with z | ⟨ob,xs,z⟩
     ·rw[q] at z;cases z
     ·have z2:=un.frzs b ob _ z
      obtain⟨e1,_⟩:=hok b _ z
      obtain⟨e2,_⟩:=hok' b _ z2
      rw[e] at e1;cases e1
      exact e2
 cases hk:K.lookup a with
 | some o =>
  -- the script is one of the module's own objects
  have e:=KX a o hk
  rw[ha] at e
  cases e
  refine core (fun _=>none) (fun _=>.inl rfl) (.inr ⟨_,vs.toArray,_,hk,rfl,rfl,rfl,by rw[List.size_toArray,lenV];exact hl,by simpa using rv⟩) (fun b u z=>by have z':(none:Option HO)=some u:=z;cases z') (fun b z=>absurd rfl z) fun z=>absurd rfl z
 | none =>
  refine core (fun b=>if b=a then some (.frz { cls:=.type "list",data:=.seq vs.toArray } (.lst (ns.map V.int))) else none) (fun b=>?_) (.inl (.inr ⟨{ cls:=.type "list",data:=.seq vs.toArray },if_pos rfl⟩)) (fun b u z=>?_) (fun b z=>?_) fun _=>hk
  ·by_cases hb:b=a
   ·exact .inr ⟨_,_,if_pos hb⟩
   ·exact .inl (if_neg hb)
  ·by_cases hb:b=a
   ·have z':=(if_pos hb).symm.trans z
    cases z'
    subst hb
    exact⟨ha,by rw[List.length_map];exact hl,vs,_,rv,ha⟩
   ·have z':=(if_neg hb).symm.trans z
    cases z'
  ·by_cases hb:b=a
   ·exact hb
   ·exact absurd (if_neg hb) z
end L2
namespace L2
open PySem PySem.Spec PyProof.Rows
theorem walk_of {l:PySem.W.OpenLaw}{n k:Nat}{q:Program}{loose:List Str}{XP:(Str→Option Value)→Heap→Prop}{YP:World→Heap→Prop}{d:DefRec}{K:Params→PySem.W.Frag}{CX:World→CXT}{sp:World→Sp}{x:Str}
  (hn:l.most=some n)(hn2:n≤sizeLine)(hdf:d.params.defaults=[])(hr:zBu k callerA)
  (hY:∀ (w:World)(h:Heap),YP w h→(K w.params).In h)
  (F:∀ (w:World)(mg:Str→Option Value)(fa:Addr)(h:Heap),(K w.params).In h→h.Ns mainGlobals mg→mg d.name=some (.ref fa) →
   ∃ fd:FuncData,(∀ (s:Shared)(u:Value),BindsTo s fd ⟨[u],[]⟩ [(x,u)]) ∧
    ∀ base:Heap,(K w.params).In base→base.Ns mainGlobals mg→zFo l.prog w (K w.params) mg base (CX w) k fa fd [x] (sp w))
  (hsp:∀ (w:World)(H:Hp)(a:Addr)(ns:List Int),ns.length≤n→Only H→SqL (K w.params) H a (ns.map V.int)→sp w [.ref a] H (fun v _=>v=.bl true) fun _ _ _=>False)
  (hCX:∀ (w:World)(H:Hp)(s:Shared)(e:Value)(s':Shared),CX w [] H s (fun _ _ _=>False) e s'→False) :
  PySem.W.WalkO q loose XP YP l.row.toRowW d [] (fun f vs=>PySem.call f vs):=by
 refine Att.attach_call hn hdf fun w s₀ s₁ mg mb fa o pm cd doc a vs ns G Y ho hd hcd hmg hobj hints hlen hg=>?_
 have KX:=hY w _ Y
 obtain⟨fd,hb,hF⟩:=F w mg fa _ KX G.T.g hmg
 exact law_call KX G.T.g G.T.b G.T.builtins G.T.nolimit hg hobj hints (Nat.le_trans hlen hn2) hr hF hb (fun H hO hS=>hsp w H a ns hlen hO hS) fun H e s'=>hCX w H s₁ e s'
end L2
namespace L2
open PySem PySem.Spec PyProof.Rows
def zD (s:Stmt):Arguments:=match s with
 | .FunctionDef _ a _ _ _ _ _ _ _ _=>a
 | _=>{ posonlyargs:=[],args:=[],vararg:=none,kwonlyargs:=[],kw_defaults:=[],kwarg:=none,defaults:=[] }
def zC (s:Stmt):List Stmt:=match s with
 | .FunctionDef _ _ b _ _ _ _ _ _ _=>b
 | _=>[]
def zA (s:Stmt):Scope:=match s with
 | .FunctionDef _ _ _ _ _ _ sc _ _ _=>sc
 | _=>{ kind:=.function,names:=[],isGenerator:=false,isCoroutine:=false }
abbrev CX0:CXT:=fun _ _ _ _ _ _=>False
abbrev E0:XK:=fun _ _ _=>False
theorem pass0 {X:Cx}:Passes CX0 X E0:=fun _ _ _ _ _ _ _ h=>h.elim
structure Fun (K:PySem.W.Frag)(x qual:Str)(st:Stmt)(f:Addr)(fd:FuncData):Prop where
 ex:∃ (oc:Value)(od:Option Addr)(kV doc pm:Value)(an:Option Addr)(cdv ct:Value)(osl:Array (Option Value)),
  fd=PySem.W.fnOf x qual (zD st) (zC st) (zA st) .none kV doc pm an cdv ct∧K.lookup f=some ⟨oc,od,.func fd,osl⟩∧PySem.W.codeIn K cdv qual=true
 kp:PySem.W.keepIn K (.ref f)=true
section
variable {P:Program}{w:World}{K:PySem.W.Frag}{mg:Str→Option Value}{base:Heap}
theorem Fun.ok {x qual:Str}{st:Stmt}{f:Addr}{fd:FuncData}{N ps:List Str}{k:Nat}{sp:Sp}(F:Fun K x qual st f fd)(S:zN N ps (zA st))(len:∀ vs H Q E,sp vs H Q E→vs.length=ps.length)
  (hbody:∀ (cdv:Value)(A:Around)(outer:List Env)(s:Shared)(H:Hp)(vs:List V)(Q:VK)(E:XK),zBu k (A.deeper (envOfC qual (zA st) s.heap.objs.size f cdv))→sp vs H Q E →
   ∃ t,PSs (cxOf CX0 P w K mg base N qual (zA st) f cdv A outer s H E).nox (zC st) t∧t { nx:=fun _ H'=>Q .non H',rt:=Q } (start N vs) H):zFo P w K mg base CX0 (k+1) f fd ps sp:=by
 obtain⟨oc,od,kV,doc,pm,an,cdv,ct,osl,rfl,lk,hcd⟩:=F.ex
 refine fn_of lk hcd S len fun A outer s H vs Q E hr hsp=>?_
 obtain⟨t,h,q⟩:=hbody cdv A outer s H vs Q E hr hsp
 exact⟨t,h.nox,q⟩
theorem Fun.binds {x qual:Str}{st:Stmt}{f:Addr}{fd:FuncData}{ps:List Str}(F:Fun K x qual st f fd)
  (h:∀ (kV doc pm:Value)(an:Option Addr)(cdv ct:Value)(us:List Value),us.length=ps.length→bindArgs (PySem.W.fnOf x qual (zD st) (zC st) (zA st) .none kV doc pm an cdv ct) ⟨us,[]⟩=pure (ps.zip us)):Binds K fd ps []:=by
 obtain⟨oc,od,kV,doc,pm,an,cdv,ct,osl,rfl,lk,hcd⟩:=F.ex
 exact .all (h kV doc pm an cdv ct)
theorem zT {x qual:Str}{st:Stmt}{f:Addr}{oc:Value}{od an:Option Addr}{osl:Array (Option Value)}{kV doc pm cdv ct:Value}(l:K.lookup f=some ⟨oc,od,.func (PySem.W.fnOf x qual (zD st) (zC st) (zA st) .none kV doc pm an cdv ct),osl⟩)
  (c:PySem.W.codeIn K cdv qual=true)(k:PySem.W.keepIn K (.ref f)=true):Fun K x qual st f (PySem.W.fnOf x qual (zD st) (zC st) (zA st) .none kV doc pm an cdv ct):=⟨⟨oc,od,kV,doc,pm,an,cdv,ct,osl,rfl,l,c⟩,k⟩
end
section
variable {X:Cx}
theorem pv (i:Nat){x:Str}{pos:Pos}(hN:X.N[i]?=some x:=by rfl)(hv:Vis X.env.scope x:=by first | exact Or.inl rfl | exact Or.inr (Or.inl rfl) | exact Or.inr (Or.inr rfl))(hd:(x == ("__debug__":Str))=false:=by decide)
  (hcd:(x == ("__classdict__":Str))=false:=by decide):PE X (.Name x pos) (tVar i):=pe_var hN hv hd hcd
end
theorem iteF {A B:Prop}(h:B):if false=true then A else B:=by
 rw[if_neg Bool.false_ne_true]
 exact h
theorem iteT {A B:Prop}(h:A):if true=true then A else B:=by
 rw[if_pos rfl]
 exact h
theorem zAl {c A B:Prop} [Decidable c] (h1:c→A)(h2:¬ c→B):if c then A else B:=by
 by_cases h:c
 ·rw[if_pos h]
  exact h1 h
 ·rw[if_neg h]
  exact h2 h
theorem iteNS {c A B:Prop} [Decidable c] (hc:c)(h:B):if (!decide c)=true then A else B:=by
 rw[decide_eq_true hc]
 exact iteF h
def zP (H H':Hp):Prop:=∀ b o,H b=some o→H' b=some o
theorem zP.refl (H:Hp):zP H H:=fun _ _ h=>h
theorem zP.trans {H H1 H2:Hp}(a:zP H H1)(b:zP H1 H2):zP H H2:=fun c o h=>b c o (a c o h)
theorem zP.free {H H':Hp}(e:zP H H'){l:Addr}(h:H' l=Option.none):H l=Option.none:=by
 cases q:H l with
 | none=>rfl
 | some o =>
  rw[e l o q] at h
  cases h
theorem zP.seq {K:PySem.W.Frag}{H H':Hp}{a:Addr}{xs:List V}(e:zP H H')(h:SqL K H a xs):SqL K H' a xs:=by
 rcases h with (h | ⟨o,h⟩) | h
 ·exact .inl (.inl (e _ _ h))
 ·exact .inl (.inr ⟨o,e _ _ h⟩)
 ·exact .inr h
end L2
set_option maxHeartbeats 5000000
namespace L2
open PySem PySem.Spec PyProof.Rows
section
variable {A:Around}{prog:Program}{w:World}{s:Shared}{R:Result→Shared→Prop}
theorem compLoop_any {el tgt src:Expr}{tests:List Expr}{sc:Scope}{ps:Pos}{itv ac:Value}{env:Env}(J:Nat→Shared→Prop)
  (trn:∀ k t,J k t→wpAny (model prog w) A (pyNext itv) (fun z t₁=>match z with
   | none=>R (.ok .next) t₁
   | some v=>wpAny (model prog w) A (letOwnedTupleGo tgt itv v) (fun _ t₁=>wpAny (model prog w) A (assign tgt env v) (fun _ t₂ =>
     wpAny (model prog w) A (forIn tests true fun tst go=>if go=true then do let yes ← isTrue tst env (eval tst env);pure (ForInStep.yield yes) else pure (ForInStep.yield go)) (fun yes t₃ =>
      if yes=true then wpAny (model prog w) A (eval el env) (fun x t₄ =>
       wpAny (model prog w) A (call (.builtin "list.append") [ac,x]) (fun _ t₅=>∃ m,m < k∧J m t₅) (fun _ _=>False) t₄) (fun _ _=>False) t₃
      else ∃ m,m < k∧J m t₃) (fun _ _=>False) t₂) (fun _ _=>False) t₁) (fun _ _=>False) t₁) (fun _ _=>False) t)
  (k:Nat)(h:J k s):codeAny (model prog w) A (.compLoop (.ListComp el [⟨tgt,src,tests,0⟩] sc ps) 0 itv ac env) R s:=by
 refine codeAny_loop rfl J (fun k t hJ=>?_) k h
 refine (wpAny_noted (m:=compTurn (.ListComp el [⟨tgt,src,tests,0⟩] sc ps) 0 itv ac env) ?_:wpAny _ A _ _ _ t)
 rw[compTurn_list]
 refine wpAny_bind (wpAny_standAt (wpAny_bind (wpAny_mono (trn k t hJ) (fun z t₁ q₁=>?_) fun _ _ f=>f.elim)))
 cases z with
 | none=>exact wpAny_pure q₁
 | some v =>
  refine wpAny_bind (wpAny_mono q₁ (fun _ t₁ q₁=>?_) fun _ _ f=>f.elim)
  refine wpAny_bind (wpAny_mono q₁ (fun _ t₂ q₂=>wpAny_bind (wpAny_mono q₂ (fun yes t₃ q₃=>?_) fun _ _ f=>f.elim)) fun _ _ f=>f.elim)
  cases yes with
  | false=>exact wpAny_pure (And.intro rfl q₃)
  | true =>
   exact wpAny_bind (wpAny_bind (wpAny_mono q₃ (fun x t₄ q₄=>wpAny_bind (wpAny_mono q₄ (fun _ t₅ q₅=>wpAny_pure (wpAny_pure ⟨rfl,q₅⟩)) fun _ _ f=>f.elim)) fun _ _ f=>f.elim))
end
theorem jG {cells:List (Str×Addr)}:∀ x c,([]:List (Str×Addr)).lookup x=some c→cells.lookup x=some c:=fun _ _ h=>by cases h
theorem jK {cells r:List (Str×Addr)}{k:Str}{a:Addr}(h1:cells.lookup k=some a)(h2:∀ x c,r.lookup x=some c→cells.lookup x=some c) :
  ∀ x c,((k,a)::r).lookup x=some c→cells.lookup x=some c:=fun x c h=>by
 rw[List.lookup_cons] at h
 cases e:x == k with
 | true =>
  rw[e] at h
  have:x=k:=by simpa using e
  subst this
  cases h
  exact h1
 | false =>
  rw[e] at h
  exact h2 x c h
theorem zDe {env:Env}:∀ {names:List (Str×NameKind)}{x:Str},(∀ y∈names,y.2≠.cell) →
    ((names.map fun (n,k)=>if (k == NameKind.free && env.scope.kind == .function && env.kindOf n == some .cell) then (n,NameKind.cell) else (n,k)).lookup x=some .cell ∨
     (names.map fun (n,k)=>if (k == NameKind.free && env.scope.kind == .function && env.kindOf n == some .cell) then (n,NameKind.cell) else (n,k)).lookup x=some .free)→(x,NameKind.free)∈names
  | [],x,_,h=>by simp at h
  | (n,k)::r,x,hc,h=>by
    have ih:=@zDe env r x (fun y hy=>hc y (List.mem_cons_of_mem _ hy))
    rw[List.map_cons] at h
    dsimp only at h
    by_cases c:(k == NameKind.free && env.scope.kind == .function && env.kindOf n == some .cell)=true
    · have hk:k=.free:=by
        have:=(Bool.and_eq_true_iff.mp (Bool.and_eq_true_iff.mp c).1).1
        cases k <;> first | rfl | (exact absurd this (by decide))
      rw[if_pos c,List.lookup_cons] at h
      cases e:x == n with
      | true =>
        have:x=n:=by simpa using e
        subst this;subst hk
        exact List.mem_cons_self
      | false =>
        rw[e] at h
        exact List.mem_cons_of_mem _ (ih h)
    · rw[if_neg c,List.lookup_cons] at h
      cases e:x == n with
      | true =>
        have:x=n:=by simpa using e
        subst this
        rw[e] at h
        rcases h with h | h
        · exact absurd (Option.some.inj h) (hc (x,k) List.mem_cons_self)
        · have:=Option.some.inj h
          subst this;exact List.mem_cons_self
      | false =>
        rw[e] at h
        exact List.mem_cons_of_mem _ (ih h)
theorem jD {names:List (Str×NameKind)}{cl:List (Str×Addr)}(h:names.all (fun y=>!(y.2 == NameKind.free) || (cl.lookup y.1).isSome)=true):∀ y∈names,y.2=.free→∃ c,cl.lookup y.1=some c:=fun y hy e=>by
 have q:=List.all_eq_true.mp h y hy
 rw[e] at q
 exact Option.isSome_iff_exists.mp (by simpa using q)
theorem jB {α:Type}{F:α→Prop}:∀ p∈([]:List α),F p:=fun _ h=>(nomatch h)
theorem jI {α:Type}{F:α→Prop}{p:α}{l:List α}(h:F p)(r:∀ q∈l,F q):∀ q∈p::l,F q:=fun q hq=>by
 rcases List.mem_cons.mp hq with e | e
 ·rw[e];exact h
 ·exact r q e
def zAs (X:Cx)(scope:Scope)(cl:List (Str×Addr))(N':List Str)(C:Addr)(s:Shared)(H:Hp)(fp:List Addr):Cx where
 prog:=X.prog
 w:=X.w
 K:=X.K
 mg:=X.mg
 base:=X.base
 A:=X.A
 N:=N'
 s₀:=s
 H₀:=H
 env:=compEnvC scope cl C X.env
 outer:=X.stack
 stack:=X.stack
 ex:=fp
 fn:=fun _=>false
 calm:=X.calm
 pn:=[]
 xe:=fun _ _=>False
def PTs (X:Cx)(ifs:List Expr)(t:TT):Prop :=
 ∀ (pins:List (Addr×Obj))(s:Shared)(σ:St)(H:Hp)(Q:Bool→Hp→Prop),Inv X pins σ H s→t σ H Q →
  wpAny (model X.prog X.w) X.A (forIn ifs true fun c r=>if r=true then do let ok ← isTrue c X.env (eval c X.env);pure (ForInStep.yield ok) else pure (ForInStep.yield r)) (TP X pins σ Q) X.xe s
def tYes:TT:=fun _ H Q=>Q true H
theorem zBj {X:Cx}:PTs X [] tYes:=fun _ _ _ H _ I h=>wpAny_tests_nil ⟨H,I,h⟩
theorem pts_one {X:Cx}{c:Expr}{t:TT}(h:PT X c t):PTs X [c] t:=fun pins s σ H Q I q=>wpAny_tests_one (h pins s σ H Q I q)
def zAx (cap:List (Str×Nat))(k:Nat)(σ:St):St:=cap.map (fun p=>(σ[p.2]?).join) ++ List.replicate k none
def zDq (J:It)(g:TG)(tc:TT)(te:TE)(σ':St)(Q:VK)(H1:Hp):Prop :=
 ∃ W:Nat→Nat→List V→Hp→Prop,(∃ m,W 0 m [] H1)∧∀ i m ys H,W i m ys H →
  (J.stop i H∧∀ D,H D=none→Q (.ref D) (upd H D (.lst ys))) ∨
  (J.go i H∧ys.length < sizeLine∧∃ N:List V→Hp→Prop,(∀ ys' H',N ys' H'→∃ m',m' < m∧W (i+1) m' ys' H') ∧
   ∀ x H',J.yld i H x H'→g x σ' H' fun σ2 H2=>tc σ2 H2 fun b H3=>if b=true then te σ2 H3 fun y H4=>N (ys ++ [y]) H4 else N ys H3)
def tComp (cap:List (Str×Nat))(k:Nat)(wi:TI)(g:TG)(tc:TT)(te:TE):TE:=fun σ H Q=>wi σ H fun J H1=>zDq J g tc te (zAx cap k σ) Q H1
def Leaves (n:Nat)(g:TG):Prop:=∀ x σ H Q,g x σ H Q→g x σ H fun σ2 H2=>(σ2.length=σ.length∧∀ j,j < n→σ2[j]?=σ[j]?)∧Q σ2 H2
theorem vW {n i:Nat}(h:n≤i):Leaves n (zEr i):=fun x σ H Q q=>⟨⟨by simp,fun j hj=>by rw[List.getElem?_set_ne (by omega)]⟩,q⟩
abbrev lstO (us:List Value):Obj:={ cls:=.type "list",data:=.seq us.toArray us.length }
structure Fin (X:Cx)(pins:List (Addr×Obj))(H:Hp)(s:Shared)(C:Addr):Prop where
 none:H C=Option.none
 loc:C≠X.env.locals
 sz:X.s₀.heap.objs.size≤C
 cel:∀ x c,X.env.cells.lookup x=some c→c≠C
 pin:∀ p∈X.pn ++ pins,p.1≠C
 ns:∃ m,s.heap.Ns C m
theorem Fin.go {X:Cx}{pins:List (Addr×Obj)}{σ:St}{H:Hp}{s:Shared}{C:Addr}(f:Fin X pins H s C)(I:Inv X pins σ H s){h':Heap}(sb:Heap.SameBut C s.heap h'):Inv X pins σ H { s with heap:=h' } :=
 I.turned (t':=s.toks) (it:=C) (fun b o hb e=>(sb.2 b hb).trans e) f.none f.loc (.inr f.sz) f.cel f.pin
theorem comp_core {X:Cx}{elt iter tg:Expr}{ifs:List Expr}{scope:Scope}{pos pos':Pos}{cl:List (Str×Addr)}{cap:List (Str×Nat)}{tgs:List Str}{wi:TI}{g:TG}{tc:TT}{te:TE}
  (hc:X.calm=true)(hclos:closureFor scope X.env=pure cl)(hkind:scope.kind=.function)
  (hnames:∀ x∈scope.names,x.2=.local→scope.names.lookup x.1=some .local)(hcell:∀ y∈scope.names,y.2≠.cell)
  (hfree:∀ y∈scope.names,y.2=.free→∃ c,cl.lookup y.1=some c)
  (hsub:∀ x c,cl.lookup x=some c→X.env.cells.lookup x=some c)
  (hcap:∀ p∈cap,X.N[p.2]?=some p.1∧(X.env.kindOf p.1=some .cell∨X.env.kindOf p.1=some .free)∧((relabel scope X.env).names.lookup p.1=some .cell∨(relabel scope X.env).names.lookup p.1=some .free)∧∃ c,cl.lookup p.1=some c)
  (hl:Leaves cap.length g)(hi:PI X tg iter wi)
  (hb:∀ C s H fp,PG (zAs X scope cl (cap.map (·.1) ++ tgs) C s H fp) tg g∧PTs (zAs X scope cl (cap.map (·.1) ++ tgs) C s H fp) ifs tc∧PE (zAs X scope cl (cap.map (·.1) ++ tgs) C s H fp) elt te)
  (hs:∀ x,foldedSetIterable iter X.env x=pure x)
  {pins:List (Addr×Obj)}{s:Shared}{σ:St}{H:Hp}{Q:VK}{Qp:Value→Shared→Prop}{use:Option (Value→Sem Unit)}(I:Inv X pins σ H s)(h:tComp cap tgs.length wi g tc te σ H Q)
  (fin:∀ D C H' s',Inv X pins σ H' s'→Fin X pins H' s' C→Q (.ref D) H'→compPost (model X.prog X.w) X.A X.xe use Qp (.ref D) C (.ok .next) s') :
  wpAny (model X.prog X.w) X.A (comprehension (.ListComp elt [⟨tg,iter,ifs,0⟩] scope pos) scope X.env pos' (newList []) false (eval iter X.env) use) Qp X.xe s:=by
 refine wpAny_comprehension_free (g:=⟨tg,iter,ifs,0⟩) (gs:=[]) rfl hs hclos hkind hnames ?_
 refine thn (hi pins s σ H _ I h) fun v s1 h1=>thn h1 fun itv s2 h2=>?_
 obtain⟨it,fp,tn,J,H2,e,I2,T,st2,f2,W,⟨m0,w0⟩,turn⟩:=h2
 subst e
 refine wpAny_newObj_type (wpAny_newFunctionEnv hcell (fun y hy=>(by simp at hy)) (fun h₁ hns₁ hsb₁=>?_) hkind)
 dsimp only at hns₁ hsb₁ ⊢
 generalize hH2:s2.heap.push { cls:=.type "list",dict:=none,data:=.seq ([]:List Value).toArray }=HH at hns₁ hsb₁ ⊢
 have hC:HH.objs.size=s2.heap.objs.size+1:=by rw[← hH2,Heap.size_push]
 have hDC:s2.heap.objs.size≠HH.objs.size:=by rw[hC];exact Nat.ne_of_lt (Nat.lt_succ_self _)
 have below:∀ b,b < s2.heap.objs.size→b≠HH.objs.size∧b≠s2.heap.objs.size:=fun b hb=>⟨by rw[hC];exact Nat.ne_of_lt (Nat.lt_succ_of_lt hb),Nat.ne_of_lt hb⟩
 have old:∀ b o,s2.heap.get? b=some o→h₁.get? b=some o:=fun b o e=>hsb₁.extBut b o (below b (Heap.lt_size e)).1 (Heap.get?_push_of_some _ (hH2▸Heap.get?_push_of_some _ e))
 have hacc:h₁.get? s2.heap.objs.size=some (lstO []):=hsb₁.extBut _ _ hDC (Heap.get?_push_of_some _ (hH2▸Heap.get?_push_size _ rfl))
 have fpold:∀ b∈fp,b < s2.heap.objs.size:=fun b hb=>let ⟨o,e,_⟩:=T.obj _ _ st2 b hb;Heap.lt_size e
 have celo:∀ x c,cl.lookup x=some c→c < s2.heap.objs.size:=fun x c e=>let ⟨v,q⟩:=I2.cell x c (hsub x c e);q.lt
 have frold:∀ b∈frs X.stack,b < s2.heap.objs.size:=fun b hb=>by
  obtain⟨_,o,ho,_⟩:=I2.stack.mem hb
  exact Heap.lt_size ho
 generalize hX:zAs X scope cl (cap.map (·.1) ++ tgs) HH.objs.size s2 H2 fp=X'
 have ok':X'.Ok:=by
  subst hX
  refine { mod:=I2.ok.mod,kind:=hkind,glob:=I2.ok.glob,blt:=I2.ok.blt,above:=?_,inj:=fun x y c a b=>I2.ok.inj x y c (hsub x c a) (hsub y c b),has:=?_,cab:=fun x c h=>(nomatch h),hd:=I2.ok.hd,frames:=I2.ok.frames,stk:=.inl rfl,exf:=?_,bs:=I2.bs,bsz:=Nat.le_trans I2.ok.bsz I2.sz,noex:=?_,exfs:=?_,funs:=I2.stack,frf:=I2.stkFree }
  ·show s2.heap.objs.size≤HH.objs.size
   rw[hC];exact Nat.le_succ _
  ·intro x hx
   exact hfree (x,.free) (zDe hcell hx) rfl
  ·intro b hb
   exact⟨(below b (fpold b hb)).1,fun x c e=>(f2 b hb).2.2.2.2.1 x c (hsub x c e)⟩
  ·intro b o e hb
   rcases (f2 b hb).2.2.2.1 with z | z
   ·exact I2.ok.noex b o e z
   ·exact absurd (Nat.lt_of_lt_of_le (Heap.lt_size (I2.ok.bs b o e).1) z) (Nat.lt_irrefl _)
  ·intro b hb hm
   rcases List.mem_cons.mp (I2.zFk b hm) with z | z
   ·exact (f2 b hb).2.1 z
   ·exact (f2 b hb).2.2.1 z
 have Inv0:Inv X' [(s2.heap.objs.size,lstO [])] (zAx cap tgs.length σ) H2 { s2 with heap:=h₁,toks:=s2.toks+([]:List (Str×Value)).length }:=by
  subst hX
  refine⟨ok',rfl,I2.bare,Un.kept old,⟨_,hns₁,?_⟩,fun x c e=>?_,I2.hok.fresh (by rw[hC];exact Nat.le_succ _),fun x c e=>I2.freeC x c (hsub x c e),fun p hp=>?_,I2.hok.kept old,?_⟩
  ·intro j y v e1 e2 e3
   have e1':(cap.map (·.1) ++ tgs)[j]?=some y:=e1
   by_cases hj:j < cap.length
   ·unfold zAx at e2
    rw[List.getElem?_append_left (by simpa using hj),List.getElem?_map] at e2
    rw[List.getElem?_append_left (by simpa using hj),List.getElem?_map] at e1'
    rw[List.getElem?_eq_getElem hj] at e1' e2
    have ey:cap[j].1=y:=by simpa using e1'
    have ev:(σ[cap[j].2]?).join=some v:=by simpa using e2
    obtain⟨c1,c2,c3,c,c4⟩:=hcap cap[j] (List.getElem_mem hj)
    have ev':σ[cap[j].2]?=some (some v):=by
     cases q:σ[cap[j].2]? with
     | none=>rw[q] at ev;cases ev
     | some z=>rw[q] at ev;exact congrArg some ev
    rw[ey] at c1 c2 c3 c4
    obtain⟨m,hn,hl'⟩:=I2.loc
    have vis:Vis X.env.scope y:=by
     rcases c2 with c2 | c2
     ·exact .inr (.inl c2)
     ·exact .inr (.inr c2)
    obtain⟨u,ru,lu⟩:=hl' _ y v c1 ev' vis
    refine⟨u,ru,.inr ⟨c3,c,c4,?_⟩⟩
    rcases lu with ⟨k,_⟩ | ⟨_,c',e',q⟩
    ·rcases c2 with c2 | c2 <;> (rw[k] at c2;cases c2)
    ·rw[hsub y c c4] at e'
     cases e'
     obtain⟨o,ho,hd⟩:=q
     exact⟨o,old _ _ ho,hd⟩
   ·unfold zAx at e2
    rw[List.getElem?_append_right (by simpa using hj),List.getElem?_replicate] at e2
    split at e2 <;> cases e2
  ·obtain⟨v,o,ho,hd⟩:=I2.cell x c (hsub x c e)
   exact⟨v,o,old _ _ ho,hd⟩
  ·have hp':p∈([(s2.heap.objs.size,lstO [])]:List (Addr×Obj)):=hp
   obtain rfl:=List.mem_singleton.mp hp'
   refine⟨hacc,I2.hok.fresh (Nat.le_refl _),hDC,fun z=>Nat.lt_irrefl _ (frold _ z),fun v z=>?_⟩
   have z':Data.seq _ _=Data.cell v:=z
   cases z'
  ·show (zAx cap tgs.length σ).length=(cap.map (·.1) ++ tgs).length
   unfold zAx
   simp
 have fpX:∀ {us:List Value}{H':Hp},(∀ b∈fp,H' b=none)→∀ b∈fp,FpOk X' [(s2.heap.objs.size,lstO us)] H' b:=by
  subst hX
  intro us H' hn b hb
  refine⟨hn b hb,(below b (fpold b hb)).1,fun z=>ok'.exfs b hb z,.inl hb,fun x c e=>(f2 b hb).2.2.2.2.1 x c (hsub x c e),fun p hp=>?_⟩
  have hp':p∈([(s2.heap.objs.size,lstO us)]:List (Addr×Obj)):=hp
  obtain rfl:=List.mem_singleton.mp hp'
  exact Ne.symm (below b (fpold b hb)).2
 have eP:X'.prog=X.prog:=by subst hX;rfl
 have eW:X'.w=X.w:=by subst hX;rfl
 have eK:X'.K=X.K:=by subst hX;rfl
 have eA:X'.A=X.A:=by subst hX;rfl
 have eE:X'.env=compEnvC scope cl HH.objs.size X.env:=by subst hX;rfl
 have eF:X'.fs=frs X.stack:=by subst hX;rfl
 have eX:X'.ex=fp:=by subst hX;rfl
 have eH:X'.H₀=H2:=by subst hX;rfl
 have eS:X'.s₀=s2:=by subst hX;rfl
 have ec:X'.calm=true:=by subst hX;exact hc
 have epn:X'.pn=[]:=by subst hX;rfl
 have exe:X'.xe=fun _ _=>False:=by subst hX;rfl
 obtain⟨hg,ht,he⟩:PG X' tg g∧PTs X' ifs tc∧PE X' elt te:=by subst hX;exact hb _ _ _ _
 have loop:codeAny (model X.prog X.w) X.A (.compLoop (.ListComp elt [⟨tg,iter,ifs,0⟩] scope pos) 0 (.ref it) (.ref s2.heap.objs.size) (compEnvC scope cl HH.objs.size X.env))
   (compPost (model X.prog X.w) X.A X.xe use Qp (.ref s2.heap.objs.size) HH.objs.size) { s2 with heap:=h₁,toks:=s2.toks+([]:List (Str×Value)).length }:=by
  refine compLoop_any (fun n s'=>∃ i ys us H',Inv X' [(s2.heap.objs.size,lstO us)] (zAx cap tgs.length σ) H' s'∧Vals ys us∧ys.length≤sizeLine∧tn i s'.heap∧(∀ b∈fp,H' b=none)∧W i n ys H') ?_ m0
   ⟨0,[],[],H2,Inv0,.nil,Nat.zero_le _,T.keep _ _ _ st2 fun b _ o e=>old b o e,fun b hb=>(f2 b hb).1,w0⟩
  rintro n s3 ⟨i,ys,us,H3,I3,rv,hz,st3,fr3,w3⟩
  rcases turn i n ys H3 w3 with ⟨stop,qn⟩ | ⟨go,hlen,N,hN,step⟩
  ·have d:=T.done X' eP eW eK ec i _ s3 _ H3 (fun _ _=>False) I3 (fpX fr3) st3 stop
   rw[eA] at d
   refine thn d fun r s4 ⟨hr,I4⟩=>?_
   subst hr
   obtain⟨m,hn,_⟩:=id I4.loc
   rw[eE] at hn
   have pD:=I4.pin (s2.heap.objs.size,lstO us) (by rw[epn];simp)
   have fC:H3 HH.objs.size=none:=by have:=I4.free;rw[eE] at this;exact this
   have un:=I4.base
   rw[eF,eX,eH,eS] at un
   have nD:∀ b o,s2.heap.get? b=some o→b≠s2.heap.objs.size:=fun b o e=>(below b (Heap.lt_size e)).2
   have fD2:H2 s2.heap.objs.size=none:=I2.hok.fresh (Nat.le_refl _)
   have leC:s2.heap.objs.size≤HH.objs.size:=by rw[hC];exact Nat.le_succ _
   refine fin s2.heap.objs.size HH.objs.size (upd H3 s2.heap.objs.size (.lst ys)) s4 (I2.call' (ch:=fp) ?_ ?_ ?_ I4.bare ?_)
    ⟨by rw[zK (Ne.symm hDC)];exact fC,Ne.symm (below _ I2.lt).1,Nat.le_trans I2.sz leC,fun x c e=>?_,fun p hp=>(below _ (Heap.lt_size (I2.pin p hp).1)).1,⟨m,hn⟩⟩ (qn _ pD.2.1)
   ·have:=I4.os;rw[eS] at this;exact this
   ·refine⟨un.keep,un.slot,fun b o e n hx=>?_,un.there,fun b xs q=>?_,fun b o u q=>?_,fun b ps q=>?_⟩
    ·rw[zK (nD b o e)];exact un.free b o e n hx
    ·rw[zK (zJ q fD2)];exact un.tups b xs q
    ·rw[zK (zJ q fD2)];exact un.frzs b o u q
    ·rw[zK (zJ q fD2)];exact un.tbls b ps q
   ·have hok:=I4.hok
    rw[eP,eW] at hok
    intro b u e
    by_cases hb:b=s2.heap.objs.size
    ·subst hb
     rw[zH] at e
     cases e
     exact⟨hz,us,us.length,rv,pD.1⟩
    ·rw[zK hb] at e
     exact (hok b u e).stay (fun c v hcc q=>q) (fun c q=>by rw[zK (zJ q pD.2.1)];exact q) fun c xs q=>by rw[zK (zJ q pD.2.1)];exact q
   ·exact fun b hb=>⟨(f2 b hb).2.2.2.1,(f2 b hb).2.1,(f2 b hb).2.2.2.2.1,(f2 b hb).2.2.2.2.2⟩
   ·obtain⟨v,q⟩:=I2.cell x c e
    exact (below c q.lt).1
  ·have d:=T.item X' eP eW eK ec i _ s3 _ H3 (fun _ _=>False) I3 (fpX fr3) st3 go
   rw[eA] at d
   refine thn d fun r s4 ⟨u,hr,h4⟩=>?_
   subst hr
   refine thn h4 fun _ s5 ⟨x,H5,I5,r5,y5,st5,fr5⟩=>?_
   have I5':=I5.pinned (fpX fr5) (T.obj _ _ st5)
   have a6:=hg _ s5 _ H5 x u _ I5' r5 (hl x _ H5 _ (step x H5 y5))
   rw[eP,eW,eA,eE,exe] at a6
   refine thn a6 fun _ s6 ⟨σ6,H6,I6,⟨kl,kj⟩,q6⟩=>?_
   have a7:=ht _ s6 σ6 H6 _ I6 q6
   rw[eP,eW,eA,eE,exe] at a7
   refine thn a7 fun ok s7 ⟨H7,I7,q7⟩=>?_
   have wk:∀ {pl:List (Addr×Obj)}{H':Hp}{s':Shared},Inv X' pl σ6 H' s'→Inv X' [] (zAx cap tgs.length σ) H' s':=fun {pl H' s'} I' =>
    (I'.weak kl.symm fun j v e=>by
     by_cases hj:j < cap.length
     ·rw[kj j hj];exact e
     ·unfold zAx at e
      rw[List.getElem?_append_right (by simpa using hj),List.getElem?_replicate] at e
      split at e <;> cases e).zBh fun p hp=>(nomatch hp)
   have keepI:∀ {H':Hp}{s':Shared},Inv X' ([(s2.heap.objs.size,lstO us)] ++ pinsAt fp s5.heap) σ6 H' s'→(∀ b∈fp,∀ o,s5.heap.get? b=some o→s'.heap.get? b=some o∧H' b=none):=fun {H' s'} I' b hb o e=>by
    have z:=I'.pin (b,o) (by rw[epn];exact List.mem_append_right _ (List.mem_append_right _ (zCk hb e)))
    exact⟨z.1,z.2.1⟩
   cases ok with
   | false =>
    have q7':N ys H7:=q7
    obtain⟨m',hm,w7⟩:=hN _ _ q7'
    have pD:=I7.pin (s2.heap.objs.size,lstO us) (by rw[epn];simp)
    refine⟨m',hm,i+1,ys,us,H7,?_,rv,hz,T.keep _ _ _ st5 fun b hb o e=>(keepI I7 b hb o e).1,fun b hb=>?_,w7⟩
    ·exact (wk I7).zBh fun p hp=>by
      cases List.mem_singleton.mp hp
      exact pD
    ·obtain⟨o,e,_⟩:=T.obj _ _ st5 b hb
     exact (keepI I7 b hb o e).2
   | true =>
    have a8:=he _ s7 σ6 H7 _ I7 q7
    rw[eP,eW,eA,eE,exe] at a8
    refine thn a8 fun uy s8 ⟨y,H8,I8,ry,q8⟩=>?_
    obtain⟨m',hm,w8⟩:=hN _ _ q8
    have pD:=I8.pin (s2.heap.objs.size,lstO us) (by rw[epn];simp)
    refine append_at (hsz:=by show us.toArray.size≤sizeLine;rw[List.size_toArray,← rv.length];exact hz) pD.1 fun h9 hs9 hD9=>?_
    have fpD:∀ b∈fp,b≠s2.heap.objs.size:=fun b hb=>(below b (fpold b hb)).2
    have I9:Inv X' [] (zAx cap tgs.length σ) H8 { s8 with heap:=h9 }:=(wk I8).turned (t':=s8.toks) (it:=s2.heap.objs.size) (fun b o hb e=>(hs9.2 b hb).trans e) pD.2.1 pD.2.2.1 (.inr (by rw[eS];exact Nat.le_refl _))
     (fun x c e z=>by
      rw[eE] at e
      exact absurd (celo x c e) (by rw[z];exact Nat.lt_irrefl _)) (fun p hp=>by rw[epn] at hp;exact (nomatch hp))
    refine⟨m',hm,i+1,ys ++ [y],us ++ [uy],H8,?_,rv.append (.cons ry .nil),by rw[List.length_append,List.length_singleton];exact hlen,T.keep _ _ _ st5 fun b hb o e=>(hs9.2 b (fpD b hb)).trans (keepI I8 b hb o e).1,fun b hb=>?_,w8⟩
    ·refine I9.zBh fun p hp=>?_
     cases List.mem_singleton.mp hp
     refine⟨?_,pD.2.1,pD.2.2.1,pD.2.2.2.1,fun v z=>?_⟩
     ·show h9.get? _=some (lstO (us ++ [uy]))
      rw[hD9]
      show some ({ cls:=.type "list",data:=.seq (us.toArray.push uy) (us.length+1) }:Obj)=some { cls:=.type "list",data:=.seq (us ++ [uy]).toArray (us ++ [uy]).length }
      rw[List.push_toArray,List.length_append,List.length_singleton]
     ·have z':Data.seq _ _=Data.cell v:=z
      cases z'
    ·obtain⟨o,e,_⟩:=T.obj _ _ st5 b hb
     exact (keepI I8 b hb o e).2
 exact codeAny_compStart_list loop (T.self _ 0 _ _ _ (T.keep _ _ _ st2 fun b _ o e=>old b o e) loop)
theorem vO {X:Cx}{elt iter tg:Expr}{ifs:List Expr}{scope:Scope}{pos:Pos}{cl:List (Str×Addr)}{cap:List (Str×Nat)}{tgs:List Str}{wi:TI}{g:TG}{tc:TT}{te:TE}
  (hc:X.calm=true)(hclos:closureFor scope X.env=pure cl)(hkind:scope.kind=.function)
  (hnames:∀ x∈scope.names,x.2=.local→scope.names.lookup x.1=some .local)(hcell:∀ y∈scope.names,y.2≠.cell)
  (hfree:∀ y∈scope.names,y.2=.free→∃ c,cl.lookup y.1=some c)
  (hsub:∀ x c,cl.lookup x=some c→X.env.cells.lookup x=some c)
  (hcap:∀ p∈cap,X.N[p.2]?=some p.1∧(X.env.kindOf p.1=some .cell∨X.env.kindOf p.1=some .free)∧((relabel scope X.env).names.lookup p.1=some .cell∨(relabel scope X.env).names.lookup p.1=some .free)∧∃ c,cl.lookup p.1=some c)
  (hl:Leaves cap.length g)(hi:PI X tg iter wi)
  (hb:∀ C s H fp,PG (zAs X scope cl (cap.map (·.1) ++ tgs) C s H fp) tg g∧PTs (zAs X scope cl (cap.map (·.1) ++ tgs) C s H fp) ifs tc∧PE (zAs X scope cl (cap.map (·.1) ++ tgs) C s H fp) elt te)
  (hs:∀ x,foldedSetIterable iter X.env x=pure x:=by intro _;rfl) :
  PE X (.ListComp elt [⟨tg,iter,ifs,0⟩] scope pos) (tComp cap tgs.length wi g tc te):=by
 intro pins s σ H Q I h
 rw[eval_ListComp]
 refine comp_core hc hclos hkind hnames hcell hfree hsub hcap hl hi hb hs I h fun D C H' s' I' f q=>?_
 obtain⟨m,hn⟩:=f.ns
 exact⟨m,hn,fun h' sb=>⟨.ref D,H',f.go I' sb,rfl,q⟩⟩
theorem zFs {X:Cx}{elt iter tg:Expr}{ifs:List Expr}{scope:Scope}{pos py spos:Pos}{y:Str}{i:Nat}{cl:List (Str×Addr)}{cap:List (Str×Nat)}{tgs:List Str}{wi:TI}{g:TG}{tc:TT}{te:TE}
  (hN:X.N.Nodup)(hiy:X.N[i]?=some y)(hy:Loc X.env.scope y)
  (hc:X.calm=true)(hclos:closureFor scope X.env=pure cl)(hkind:scope.kind=.function)
  (hnames:∀ x∈scope.names,x.2=.local→scope.names.lookup x.1=some .local)(hcell:∀ y∈scope.names,y.2≠.cell)
  (hfree:∀ y∈scope.names,y.2=.free→∃ c,cl.lookup y.1=some c)
  (hsub:∀ x c,cl.lookup x=some c→X.env.cells.lookup x=some c)
  (hcap:∀ p∈cap,X.N[p.2]?=some p.1∧(X.env.kindOf p.1=some .cell∨X.env.kindOf p.1=some .free)∧((relabel scope X.env).names.lookup p.1=some .cell∨(relabel scope X.env).names.lookup p.1=some .free)∧∃ c,cl.lookup p.1=some c)
  (hl:Leaves cap.length g)(hi:PI X tg iter wi)
  (hb:∀ C s H fp,PG (zAs X scope cl (cap.map (·.1) ++ tgs) C s H fp) tg g∧PTs (zAs X scope cl (cap.map (·.1) ++ tgs) C s H fp) ifs tc∧PE (zAs X scope cl (cap.map (·.1) ++ tgs) C s H fp) elt te)
  (hs:∀ x,foldedSetIterable iter X.env x=pure x:=by intro _;rfl)
  (hsw:swapsWith (.ListComp elt [⟨tg,iter,ifs,0⟩] scope pos) (some (.Name y py)) spos.line X.env=pure true:=by rfl)
  (hf:X.fn y=true∨X.env.scope.names.lookup y=some .local:=by first | exact .inl rfl | exact .inr rfl | assumption) :
  PS X (.Assign [.Name y py] (.ListComp elt [⟨tg,iter,ifs,0⟩] scope pos) spos) (tAsg (tComp cap tgs.length wi g tc te) (zEr i)):=by
 intro pins s σ H D I h
 rw[exec_Assign_Name_used _ _ _ _ hsw];refine wpAny_bind (wpAny_standAt (wpAny_bind ?_))
 show wpAny _ X.A (do let _ ← comprehension (.ListComp elt [⟨tg,iter,ifs,0⟩] scope pos) scope X.env _ (newList []) false (eval iter X.env) (some (assign (.Name y py) X.env))) _ _ s
 refine wpAny_bind (wpAny_mono (comp_core (use:=some (assign (.Name y py) X.env)) (Qp:=fun _ s'=>SP X pins D .next s') hc hclos hkind hnames hcell hfree hsub hcap hl hi hb hs I h fun D' C H' s' I' f q=>?_) (fun _ s' hq=>wpAny_pure (wpAny_pure hq)) fun _ _ e=>e)
 show wpAny _ X.A (assign (.Name y py) X.env (.ref D')) _ _ _
 refine wpAny_assign_Name (store_ok2 I' hN hiy hy (v:=.ref D') rfl (fun s'' I'' ⟨a,sa,ha⟩=>?_) hf)
 obtain⟨m,hn⟩:=f.ns
 have hCa:C≠a:=by
  rcases ha with z | z
  ·rw[z];exact f.loc
  ·exact Ne.symm (f.cel _ _ z)
 have f'':Fin X pins H' s'' C:=⟨f.none,f.loc,f.sz,f.cel,f.pin,⟨m,hn.sameBut sa hCa⟩⟩
 exact⟨m,hn.sameBut sa hCa,fun h' sb=>⟨_,H',f''.go I'' sb,q⟩⟩
theorem zEh {K:PySem.W.Frag}{a:Addr}{xs:List V}{g:TG}{tc:TT}{te:TE}{σ':St}{H:Hp}{Q:VK}(Pv:Nat→List V→Hp→Prop)(h0:Pv 0 [] H)(hl:∀ i ys H,i≤xs.length→Pv i ys H→SqL K H a xs)(hz:∀ i ys H,i < xs.length→Pv i ys H→ys.length < sizeLine)
  (hs:∀ i x ys H,xs[i]?=some x→Pv i ys H→g x σ' H fun σ2 H2=>tc σ2 H2 fun b H3=>if b=true then te σ2 H3 fun y H4=>Pv (i+1) (ys ++ [y]) H4 else Pv (i+1) ys H3)(hd:∀ ys H,Pv xs.length ys H→∀ D,H D=none→Q (.ref D) (upd H D (.lst ys))) :
  zDq (Itl K a) g tc te σ' Q H:=by
 refine⟨fun i m ys H=>m=xs.length-i∧i≤xs.length∧Pv i ys H,⟨xs.length,by simp,Nat.zero_le _,h0⟩,?_⟩
 rintro i m ys H ⟨rfl,hi,p⟩
 have q:=hl i ys H hi p
 by_cases hlt:i < xs.length
 ·refine .inr ⟨⟨xs,xs[i],q,by simp [hlt]⟩,hz i ys H hlt p,Pv (i+1),fun ys' H' p'=>⟨xs.length-(i+1),by omega,rfl,hlt,p'⟩,fun x H' y=>?_⟩
  obtain⟨e,y⟩:=y
  subst e
  exact hs i x ys _ (y xs q) p
 ·have e:i=xs.length:=by omega
  subst e
  exact .inl ⟨⟨xs,q,Nat.le_refl _⟩,hd ys H p⟩
theorem zCi {lo:Int}{n:Nat}{g:TG}{tc:TT}{te:TE}{σ':St}{H:Hp}{Q:VK}(Pv:Nat→List V→Hp→Prop)(h0:Pv 0 [] H)(hz:∀ i ys H,i < n→Pv i ys H→ys.length < sizeLine)
  (hs:∀ i ys H,i < n→Pv i ys H→g (.int (lo+i)) σ' H fun σ2 H2=>tc σ2 H2 fun b H3=>if b=true then te σ2 H3 fun y H4=>Pv (i+1) (ys ++ [y]) H4 else Pv (i+1) ys H3)(hd:∀ ys H,Pv n ys H→∀ D,H D=none→Q (.ref D) (upd H D (.lst ys))) :
  zDq (Itr lo n) g tc te σ' Q H:=by
 refine⟨fun i m ys H=>m=n-i∧i≤n∧Pv i ys H,⟨n,by simp,Nat.zero_le _,h0⟩,?_⟩
 rintro i m ys H ⟨rfl,hi,p⟩
 by_cases hlt:i < n
 ·refine .inr ⟨hlt,hz i ys H hlt p,Pv (i+1),fun ys' H' p'=>⟨n-(i+1),by omega,rfl,hlt,p'⟩,fun x H' y=>?_⟩
  obtain⟨e,y⟩:=y
  subst e y
  exact hs i ys _ hlt p
 ·have e:i=n:=by omega
  subst e
  exact .inl ⟨Nat.le_refl _,hd ys H p⟩
end L2
namespace L2
open PySem PySem.Spec PyProof.Rows
section
variable {X:Cx}
theorem vL:OpR X (binaryOp .Mult) (rI IntMulOk fun i j=>.int (i*j)):=opI fun _ _ _ _ _ _ _ hc q=>mul_int q hc
def CDivB (i j:Int):Prop:=0 < j∧j.natAbs.log2 < 9000
theorem vT:OpR X (binaryOp .FloorDiv) (rI CDivB fun i j=>.int (i/j)):=opI fun i j _ _ _ _ _ hc q=>by
 have e:i/j=i.fdiv j:=(Int.fdiv_eq_ediv_of_nonneg i (Int.le_of_lt hc.1)).symm
 rw[e] at q
 exact floordiv_int (Int.ne_of_gt hc.1) q (.inl (PyProof.noPylong_of_log2 hc.2))
theorem jA:j4 X (.builtin "isinstance") (fun xs H Q=>∃ x T t b,xs=[x,.ty T]∧TyOf X.K H x t∧PySem.W.kitOne X.K t (.type T)=some b∧Q (.bl b) H):=by
 intro pins s σ H xs us Q I r h
 obtain⟨x,T,t,b,rfl,ty,e,q⟩:=h
 obtain⟨u,w',rfl,rx,rw'⟩:=vals2 r
 have ew:w'=Value.type T:=rw'
 subst ew
 exact isinst_ok I rx ty e fun tk=>⟨.bl b,H,I.tok tk,rfl,q⟩
end
theorem vJ:bootBuiltins "isinstance"=some (.builtin "isinstance"):=by decide +kernel
theorem bi_abs:bootBuiltins "abs"=some (.builtin "abs"):=by decide +kernel
theorem wW:bootBuiltins "len"=some (.builtin "len"):=by decide +kernel
theorem bi_sorted:bootBuiltins "sorted"=some (.builtin "sorted"):=by decide +kernel
theorem bi_int:bootBuiltins "int"=some (.type "int"):=by decide +kernel
theorem bi_bool:bootBuiltins "bool"=some (.type "bool"):=by decide +kernel
theorem zEn:bootBuiltins "list"=some (.type "list"):=by decide +kernel
theorem bi_tuple:bootBuiltins "tuple"=some (.type "tuple"):=by decide +kernel
def tMid (t u:TS):TS:=fun D σ H=>∃ M:St→Hp→Prop,t { D with nx:=M } σ H∧∀ σ' H',M σ' H'→u D σ' H'
theorem pss_mid {X:Cx}{st:Stmt}{rest:List Stmt}{t u:TS}(h1:PS X st t)(h2:PSs X rest u):PSs X (st::rest) (tMid t u):=by
 intro pins s σ H D I h
 obtain⟨M,ht,hu⟩:=h
 refine wpAny_execs_cons (thn (h1 pins s σ H { D with nx:=M } I ht) fun f s1 q=>?_)
 cases f with
 | next =>
  obtain⟨σ',H',I',q⟩:=q
  exact h2 pins s1 σ' H' D I' (hu σ' H' q)
 | ret v=>exact q
 | brk=>exact q
 | cont=>exact q
structure Df (P:Program)(w:World)(K:PySem.W.Frag)(mg:Str→Option Value)(base:Heap)(k:Nat)(x:Str)(ps:List Str)(sp:Sp):Prop where
 ex:∃ (f:Addr)(fd:FuncData),zFo P w K mg base CX0 k f fd ps sp∧Binds K fd ps []∧PySem.W.keepIn K (.ref f)=true∧mg x=some (.ref f)
theorem Df.mono {P:Program}{w:World}{K:PySem.W.Frag}{mg:Str→Option Value}{base:Heap}{j k:Nat}{x:Str}{ps:List Str}{sp:Sp}(D:Df P w K mg base j x ps sp)(h:j≤k):Df P w K mg base k x ps sp :=
 let ⟨f,fd,F,r⟩:=D.ex;⟨f,fd,F.mono h,r⟩
section
variable {X:Cx}{k:Nat}{x:Str}{ps:List Str}{sp:Sp}{e:Expr}{es:List Expr}{t:TA}{p pos:Pos}
theorem zR (D:Df X.prog X.w X.K X.mg X.base k x ps sp)(hr:zBu k X.A)(hg:Gl X x)(ha:PA X (e::es) t)(hdb:(x == ("__debug__":Str))=false:=by decide)
  (he:starEach (e::es) X.env=(false,eval e X.env)::starEach es X.env:=by rfl)(hpl:(backTo pos (starEach es X.env)).any (·.1)=false:=by rfl) :
  PE X (.Call (.Name x p) (e::es) [] pos) (tCall sp [] E0 t):=by
 obtain⟨f,fd,F,hb,hk,hm⟩:=D.ex
 exact pe_call F hr hg hm hk hb .nil pass0 ha hdb he hpl
end
structure Dn (K:PySem.W.Frag)(mg:Str→Option Value)(x:Str)(st:Stmt)(ps:List Str):Prop where
 ex:∃ (f:Addr)(fd:FuncData),Fun K x x st f fd∧Binds K fd ps []∧mg x=some (.ref f)
theorem Dn.ok {P:Program}{w:World}{K:PySem.W.Frag}{mg:Str→Option Value}{base:Heap}{x:Str}{st:Stmt}{N ps:List Str}{k:Nat}{sp:Sp}(D:Dn K mg x st ps)(S:zN N ps (zA st))(len:∀ vs H Q E,sp vs H Q E→vs.length=ps.length)
  (hbody:∀ (f:Addr)(cdv:Value)(A:Around)(outer:List Env)(s:Shared)(H:Hp)(vs:List V)(Q:VK)(E:XK),zBu k (A.deeper (envOfC x (zA st) s.heap.objs.size f cdv))→sp vs H Q E →
   ∃ t,PSs (cxOf CX0 P w K mg base N x (zA st) f cdv A outer s H E).nox (zC st) t∧t { nx:=fun _ H'=>Q .non H',rt:=Q } (start N vs) H):Df P w K mg base (k+1) x ps sp:=by
 obtain⟨f,fd,F,b,m⟩:=D.ex
 exact⟨f,fd,F.ok S len (fun cdv A outer s H vs Q E hr h=>hbody f cdv A outer s H vs Q E hr h),b,F.kp,m⟩
theorem zDl {K:PySem.W.Frag}(T:String):PySem.W.kitOne K (.type T) (.type T)=some true:=if_pos (by simp)
theorem kit_ib {K:PySem.W.Frag}:PySem.W.kitOne K (.type "int") (.type "bool")=some false:=by
 first
 | rfl
 | decide +kernel
 | (show (if (Value.type "int" == Value.type "bool")=true then some true else _)=_;rw[if_neg (by decide)];rfl)
 | (show (if (Value.type "int" == Value.type "bool")=true then some true else _)=_;rw[if_neg (by decide)];kernel_rfl)
theorem vint {a b:Int}(h:decide (V.int a=V.int b)=true):a=b:=by
 have:=of_decide_eq_true h
 injection this
theorem nvint {a b:Int}(h:¬ decide (V.int a=V.int b)=true):¬ a=b:=fun e=>h (by rw[e];simp)
theorem vne {a b:Int}(h:(!decide (V.int a=V.int b))=true):¬ a=b:=fun e=>by rw[e] at h;simp at h
theorem nvne {a b:Int}(h:¬ (!decide (V.int a=V.int b))=true):a=b:=by
 by_cases e:a=b
 ·exact e
 ·exact absurd (by simp [e]) h
theorem dec {p:Prop} [Decidable p] (h:decide p=true):p:=of_decide_eq_true h
theorem ndec {p:Prop} [Decidable p] (h:¬ decide p=true):¬ p:=fun e=>h (decide_eq_true e)
theorem vC {H H':Hp}{r:Addr}{o:HO}(h:zP H H')(n:H r=none):zP H (upd H' r o):=fun b u q=>by rw[zK (zJ q n)];exact h b u q
theorem zM {H H':Hp}{r:Addr}{o:HO}(h:zP H H')(n:H' r=none):zP H (upd H' r o):=vC h (h.free n)
theorem zAm {n:Nat}(h:n≤20000):n < sizeLine:=Nat.lt_of_le_of_lt h (by decide)
theorem size2 {n:Nat}(h:n≤20000):n≤sizeLine:=Nat.le_of_lt (zAm h)
theorem w5 {α β:Type}{F:α→β→Prop}:∀ {l₁:List α}{l₂:List β}{i:Nat}{a:α},Paired F l₁ l₂→l₁[i]?=some a→∃ b,l₂[i]?=some b∧F a b
 | _,_,0,_,.cons h _,e=>by cases e;exact⟨_,rfl,h⟩
 | _,_,i+1,_,.cons _ t,e=>w5 (i:=i) t (by rw[List.getElem?_cons_succ] at e;exact e)
theorem cut_map (ns:List Int)(lo hi:Option Int):∃ ms:List Int,cutV (ns.map V.int) lo hi=ms.map V.int∧ms.length≤ns.length:=by
 refine⟨(ns.drop (HT.sIx (ns.map V.int).length 0 lo)).take (HT.sIx (ns.map V.int).length (ns.map V.int).length hi-HT.sIx (ns.map V.int).length 0 lo),?_,?_⟩
 ·unfold cutV;rw[List.map_take,List.map_drop]
 ·rw[List.length_take,List.length_drop];omega
theorem int_at {ms:List Int}{i:Nat}{x:V}(h:(ms.map V.int)[i]?=some x):∃ v,x=.int v∧ms[i]?=some v:=by
 rw[List.getElem?_map] at h
 cases e:ms[i]? with
 | none=>rw[e] at h;cases h
 | some v=>rw[e] at h;cases h;exact⟨v,rfl,rfl⟩
theorem atI_in {ns:List Int}{k:Int}(h0:0≤k)(h:k < (ns.length:Int)):∃ v:Int,atI (ns.map V.int) k=some (.int v)∧ns[k.toNat]?=some v:=by
 have hk:k.toNat < ns.length:=(by omega)
 have ek:k=((k.toNat:Nat):Int):=by omega
 have q:atI (ns.map V.int) ((k.toNat:Nat):Int)=some (.int ns[k.toNat]):=atI_nat (by rw[List.getElem?_map,List.getElem?_eq_getElem hk] <;> rfl)
 rw[← ek] at q
 exact⟨ns[k.toNat],q,List.getElem?_eq_getElem hk⟩
theorem bits_le {a:Int}{m:Nat}(h:a.natAbs < 2^m):Builtin.Int.intBits a≤m:=by
 unfold Builtin.Int.intBits
 split
 ·exact Nat.zero_le _
 ·rename_i hz
  have h0:a.natAbs≠0:=by
   intro z
   apply hz
   simpa using z
  have:=(Nat.log2_lt h0).mpr h
  omega
theorem mul_ok {a b:Int}{m n:Nat}(ha:a.natAbs < 2^m)(hb:b.natAbs < 2^n)(h:m+n≤134217728):IntMulOk a b:=IntMulOk.of_le (bits_le ha) (bits_le hb) h
theorem vD {a b:Int}(h1:-1000000000≤a)(h2:a≤1000000000):IntMulOk a b:=IntMulOk.of_left (intBits_le_64 (by omega) (by omega))
theorem vK {i j:Int}(h0:0 < j)(h:j≤1000000000):CDivB i j:=by
 refine⟨h0,?_⟩
 have hn:j.natAbs < 2^30:=by omega
 have:=(Nat.log2_lt (show j.natAbs≠0 by omega)).mpr hn
 omega
end L2
namespace L2
open PySem PySem.Spec PyProof.Rows
section
variable {X:Cx}{pins:List (Addr×Obj)}{σ:St}{H:Hp}{s:Shared}{h':Heap}
theorem Inv.turnedL {t':Nat}{its:List Addr}(I:Inv X pins σ H s)(k:∀ b o,b∉its→s.heap.get? b=some o→h'.get? b=some o)(hf:∀ b∈its,FpOk X pins H b):Inv X pins σ H { s with heap:=h',toks:=t' }:=by
 have nit:∀ b u,H b=some u→b∉its:=fun b u e z=>by rw[(hf b z).1] at e;cases e
 refine I.step (g':=s.gens) (d':=s.drawn) (ch:=its) (fun b hb=>?_) (fun b o _ _ hc e _=>k b o hc e) (fun b o _ _ hc e _=>⟨o.slots,k b o hc e⟩) (fun _ _ _ _ n=>n)
  (fun b o hc e=>⟨o,k b o hc e⟩) (fun _ _ e=>e) (fun _ _ _ e=>e) (fun b ps e=>⟨#[],by rw[e];simp⟩) (fun m hm=>?_) (fun b u e=>?_) I.bare
 ·obtain⟨_,f1,_,f3,f4,f5⟩:=hf b hb
  exact⟨f3,f1,f4,f5⟩
 ·obtain⟨o,es,ep,ho,r⟩:=hm
  exact⟨o,es,ep,k _ o (fun z=>(hf _ z).2.1 rfl) ho,r⟩
 ·refine (I.hok b u e).stay (fun c v hc q=>k c v ?_ q) (fun _ q=>q) fun _ _ q=>q
  rcases hc with z | z
  ·rw[z];exact nit b u e
  ·exact nit c _ z
theorem Inv.turnedT {t':Nat}{its:List Addr}{xs:List V}{us:List Value}(I:Inv X pins σ H s)(k:∀ b o,b∉its→s.heap.get? b=some o→h'.get? b=some o)(hf:∀ b∈its,FpOk X pins H b)(hlt:∀ b∈its,b < s.heap.objs.size)
  (ht:h'.get? s.heap.objs.size=some { cls:=.type "tuple",data:=.seq us.toArray })(hz:xs.length≤sizeLine)(r:Vals xs us) :
  Inv X pins σ (upd H s.heap.objs.size (.tup xs)) { s with heap:=h',toks:=t' }∧∀ b∈its,upd H s.heap.objs.size (.tup xs) b=none:=by
 have nf:∀ b∈its,upd H s.heap.objs.size (.tup xs) b=none:=fun b hb=>by rw[zK (Nat.ne_of_lt (hlt b hb))];exact (hf b hb).1
 refine⟨?_,nf⟩
 have I1:Inv X pins σ (upd H s.heap.objs.size (.tup xs)) { s with heap:=s.heap.push { cls:=.type "tuple",data:=.seq us.toArray },toks:=s.toks } :=
  I.laid (t':=s.toks) (fun b u e=>Heap.get?_push_of_some _ e) (Nat.le_refl _) ⟨hz,us,r,⟨_,Heap.get?_push_size _ rfl,rfl,_,rfl⟩⟩
 have I2:=I1.turnedL (h':=h') (t':=t') (its:=its) (fun b o hb e=>?_) (fun b hb=>⟨nf b hb,(hf b hb).2⟩)
 ·exact I2
 ·have e':(s.heap.push { cls:=.type "tuple",data:=.seq us.toArray }).get? b=some o:=e
  have hb':b < s.heap.objs.size+1:=by have:=Heap.lt_size e';rw[Heap.size_push] at this;exact this
  rcases Nat.lt_or_ge b s.heap.objs.size with z | z
  ·cases q:s.heap.get? b with
   | none =>
    exact absurd e' (by
     intro e''
     have:(s.heap.push { cls:=.type "tuple",data:=.seq us.toArray }).get? b=s.heap.get? b:=by
      first | exact Heap.get?_push_lt _ z | exact Heap.get?_push_of_lt _ z | (simp [Heap.get?,Heap.push,Array.getElem?_push,Nat.ne_of_lt z])
     rw[this,q] at e'';cases e'')
   | some o' =>
    have:=Heap.get?_push_of_some { cls:=.type "tuple",data:=.seq us.toArray } q
    rw[e'] at this;cases this
    exact k b o hb q
  ·have eb:b=s.heap.objs.size:=Nat.le_antisymm (Nat.le_of_lt_succ hb') z
   subst eb
   rw[Heap.get?_push_size _ rfl] at e'
   rw[ht];exact e'
end
def Ite (K:PySem.W.Frag)(a:Addr):It :=
 ⟨fun i H=>∃ xs x,SqL K H a xs∧xs[i]?=some x,fun i H v H'=>∃ p x,v=.ref p∧H p=none∧(∀ xs,SqL K H a xs→xs[i]?=some x)∧H'=upd H p (.tup [.int i,x]),fun i H=>∃ xs,SqL K H a xs∧xs.length≤i⟩
theorem turn_enum {P:Program}{w:World}{K:PySem.W.Frag}{elts:List Expr}{x1}{pos:Pos}(a e it:Addr)(hne:e≠it):Turn P w K (.Tuple elts x1 pos) (Ite K a) [e,it] e (fun i h=>∃ old,IsEnum h e it ((i:Nat):Int) old∧h.IsListIter it a i) where
 mem:=by simp
 obj:=fun i h st b hb=>by
  obtain⟨old,he,o,e1,c,d⟩:=st
  rcases List.mem_cons.mp hb with z | z
  ·subst z
   exact⟨_,he,fun v z=>by
    have z':Data.fields _=Data.cell v:=z
    cases z'⟩
  ·have z':b=it:=by simpa using z
   subst z'
   exact⟨o,e1,fun v z=>by rw[d] at z;cases z⟩
 keep:=fun i h h' st k=>by
  obtain⟨old,he,st⟩:=st
  exact⟨old,k e (by simp) _ he,st.at fun o e'=>k it (by simp) o e'⟩
 item:=by
  intro X hP hw hK hc i pins s σ H E I hf st hg
  subst hP hw hK
  obtain⟨old,he,st⟩:=st
  obtain⟨xs,x,hq,hx⟩:=hg
  obtain⟨its,rv,p,hz⟩:=I.list hq
  obtain⟨u,hu,ru⟩:=rv.get hx
  have lte:e < s.heap.objs.size:=Heap.lt_size he
  have lti:it < s.heap.objs.size:=by obtain⟨o,e1,_⟩:=st;exact Heap.lt_size e1
  refine wpAny_pyNext_enum_item he st p.isList (x:=u) (by simpa using hu) hne fun h1 eo st1 ht1 hz1 hk1=>?_
  refine⟨_,rfl,wpAny_letOwnedTupleGo_enum eo fun h2 he2 hs2=>?_⟩
  replace hs2:Heap.SameBut e h1 h2:=hs2
  have nm:∀ b,b∉[e,it]→b≠e∧b≠it:=fun b hb=>⟨fun z=>hb (by simp [z]),fun z=>hb (by simp [z])⟩
  have IT:=I.turnedT (t':=s.toks+1) (h':=h2) (its:=[e,it]) (xs:=[.int ((i:Nat):Int),x]) (us:=[.int i s.toks,u]) (fun b o hb q=>hs2.extBut b o (nm b hb).1 (hk1 b o (nm b hb).1 (nm b hb).2 q)) hf
   (fun b hb=>by
    rcases List.mem_cons.mp hb with z | z
    ·rw[z];exact lte
    ·have z':b=it:=by simpa using z
     rw[z'];exact lti)
   (hs2.extBut _ _ (Nat.ne_of_gt lte) ht1) (by show 2≤sizeLine;decide) (.cons ⟨_,rfl⟩ (.cons ru .nil))
  refine⟨.ref s.heap.objs.size,_,IT.1,rfl,⟨_,x,rfl,I.hok.fresh (Nat.le_refl _),fun ys hy=>by rw[I.zDk hy hq];exact hx,rfl⟩,⟨u,?_,st1.extBut hs2.extBut (Ne.symm hne)⟩,IT.2⟩
  have:((i+1:Nat):Int)=(i:Int)+1:=by push_cast;rfl
  rw[this];exact he2
 done:=by
  intro X hP hw hK hc i pins s σ H E I hf st hg
  subst hP hw hK
  obtain⟨old,he,st⟩:=st
  obtain⟨xs,hq,hx⟩:=hg
  obtain⟨its,rv,p,hz⟩:=I.list hq
  have hl:=rv.length
  obtain⟨f0,f1,f2,f3,f4,f5⟩:=hf it (by simp)
  exact wpAny_pyNext_enum_end (I.ok.hd hc) he st p.isList (by simp;omega) fun h' eb=>⟨rfl,I.turned (t':=s.toks) (fun b o hb e=>eb b o hb e) f0 f1 f3 f4 f5⟩
 self:=fun A i s Q E st h=>by
  obtain⟨old,he,st⟩:=st
  exact wpAny_pyIter_enum he h
section
variable {X:Cx}
def iEnum (K:PySem.W.Frag)(ta:TA):TI:=fun σ H R=>ta σ H fun vs H1=>∃ a,vs=[.ref a]∧(∃ xs,SqL K H1 a xs)∧R (Ite K a) H1
theorem pi_enum {elts:List Expr}{x1}{pos':Pos}{a:Expr}{ta:TA}{p pos:Pos}(hg:Gl X "enumerate")(hm:X.mg "enumerate"=none)(ha:PA X [a] ta)(hs:starEach [a] X.env=[(false,eval a X.env)]:=by rfl):PI X (.Tuple elts x1 pos') (.Call (.Name "enumerate" p) [a] [] pos) (iEnum X.K ta):=by
 intro pins s σ H R I h
 refine Call_ (zAq I hg hm boot_enumerate (PyProof.Rows.callWith_type1 (thn (ha pos pins s σ H _ I h) fun us s1 ⟨vs,H1,I1,r1,q1⟩=>?_) hs rfl))
 obtain⟨a,e,⟨xs,hq⟩,q⟩:=q1
 subst e
 cases r1 with
 | cons r rr =>
  cases rr
  cases r
  obtain⟨its,rv,p,hz⟩:=I1.list hq
  refine call_enumerate_list p.isList fun h' he hit hz hk=>?_
  have I2:Inv X pins σ H1 { s1 with heap:=h' }:=I1.kept (t':=s1.toks) hk
  refine wpAny_pyIter_enum he ?_
  refine⟨_,[s1.heap.objs.size+1,s1.heap.objs.size],_,_,H1,rfl,I2,turn_enum a _ _ (Nat.succ_ne_self _),⟨.none,he,hit⟩,fun b hb=>?_,q⟩
  rcases List.mem_cons.mp hb with z | z
  ·subst z;exact I1.fpOk (Nat.le_succ _) (I1.hok.fresh (Nat.le_succ _))
  ·have z':b=s1.heap.objs.size:=by simpa using z
   subst z';exact I1.fpOk (Nat.le_refl _) (I1.hok.fresh (Nat.le_refl _))
end
def Itz (K:PySem.W.Frag)(a b:Addr):It :=
  ⟨fun i H=>∃ xs ys x y,SqL K H a xs∧SqL K H b ys∧xs[i]?=some x∧ys[i]?=some y,fun i H v H'=>∃ p x y,v=.ref p∧H p=none∧(∀ xs,SqL K H a xs→xs[i]?=some x)∧(∀ ys,SqL K H b ys→ys[i]?=some y)∧H'=upd H p (.tup [x,y]),
   fun i H=>∃ xs ys,SqL K H a xs∧SqL K H b ys∧(xs.length≤i∨ys.length≤i)⟩
theorem turn_zip {P:Program}{w:World}{K:PySem.W.Frag}{elts:List Expr}{x1}{pos:Pos}(a b z TI TO i1 i2:Addr)(D:ZipApart z TI TO i1 i2 a b):Turn P w K (.Tuple elts x1 pos) (Itz K a b) [z,TI,TO,i1,i2] z
  (fun i h=>IsZip h z TI TO .none∧IsPair h TI (.ref i1) (.ref i2)∧(∃ u v,IsPair h TO u v)∧h.IsListIter i1 a i∧h.IsListIter i2 b i) where
 mem:=by simp
 obj:=fun i h st c hc=>by
  obtain⟨hz,h1,⟨u,v,h2⟩,⟨o1,e1,c1,d1⟩,⟨o2,e2,c2,d2⟩⟩:=st
  simp only [List.mem_cons,List.not_mem_nil,or_false] at hc
  rcases hc with rfl | rfl | rfl | rfl | rfl
  ·exact⟨_,hz,fun v q=>by
    have q':Data.fields _=Data.cell v:=q
    cases q'⟩
  ·exact⟨_,h1,fun v q=>by
    have q':Data.seq _ _=Data.cell v:=q
    cases q'⟩
  ·exact⟨_,h2,fun v q=>by
    have q':Data.seq _ _=Data.cell v:=q
    cases q'⟩
  ·exact⟨o1,e1,fun v q=>by rw[d1] at q;cases q⟩
  ·exact⟨o2,e2,fun v q=>by rw[d2] at q;cases q⟩
 keep:=fun i h h' st k=>by
  obtain⟨hz,h1,⟨u,v,h2⟩,s1,s2⟩:=st
  exact⟨k z (by simp) _ hz,k TI (by simp) _ h1,⟨u,v,k TO (by simp) _ h2⟩,s1.at fun o e=>k i1 (by simp) o e,s2.at fun o e=>k i2 (by simp) o e⟩
 item:=by
  intro X hP hw hK hc i pins s σ H E I hf st hg
  subst hP hw hK
  obtain⟨hz,h1,⟨u0,v0,h2⟩,s1,s2⟩:=st
  obtain⟨xs,ys,x,y,hq,hq',hx,hy⟩:=hg
  obtain⟨its,rv,p,hzl⟩:=I.list hq
  obtain⟨its',rv',p',hzl'⟩:=I.list hq'
  obtain⟨u,hu,ru⟩:=rv.get hx
  obtain⟨u',hu',ru'⟩:=rv'.get hy
  have ltz:z < s.heap.objs.size:=Heap.lt_size hz
  have lt1:TI < s.heap.objs.size:=Heap.lt_size h1
  have lt2:TO < s.heap.objs.size:=Heap.lt_size h2
  have lti:i1 < s.heap.objs.size:=by obtain⟨o,e1,_⟩:=s1;exact Heap.lt_size e1
  have ltj:i2 < s.heap.objs.size:=by obtain⟨o,e1,_⟩:=s2;exact Heap.lt_size e1
  refine wpAny_pyNext_zip_item D hz h1 h2 s1 s2 p.isList p'.isList (x:=u) (y:=u') (by simpa using hu) (by simpa using hu') fun g1 a1 a2 a3 a4 a5 a6 hk=>?_
  refine⟨_,rfl,wpAny_letOwnedTupleGo_zip a1 fun g2 he2 hs2=>?_⟩
  replace hs2:Heap.SameBut z g1 g2:=hs2
  have nm:∀ b,b∉[z,TI,TO,i1,i2]→b≠z∧b≠TO∧b≠i1∧b≠i2:=fun b hb=>⟨fun q=>hb (by simp [q]),fun q=>hb (by simp [q]),fun q=>hb (by simp [q]),fun q=>hb (by simp [q])⟩
  have IT:=I.turnedT (t':=s.toks) (h':=g2) (its:=[z,TI,TO,i1,i2]) (xs:=[x,y]) (us:=[u,u']) (fun b o hb q=>hs2.extBut b o (nm b hb).1 (hk b o (nm b hb).1 (nm b hb).2.1 (nm b hb).2.2.1 (nm b hb).2.2.2 q)) hf
   (fun b hb=>by
    simp only [List.mem_cons,List.not_mem_nil,or_false] at hb
    rcases hb with rfl | rfl | rfl | rfl | rfl <;> assumption)
   (hs2.extBut _ _ (Nat.ne_of_gt ltz) a5) (by show 2≤sizeLine;decide) (.cons ru (.cons ru' .nil))
  exact⟨.ref s.heap.objs.size,_,IT.1,rfl,⟨_,x,y,rfl,I.hok.fresh (Nat.le_refl _),fun ys hy'=>by rw[I.zDk hy' hq];exact hx,fun ys hy'=>by rw[I.zDk hy' hq'];exact hy,rfl⟩,
   ⟨he2,hs2.extBut _ _ D.TIz (hk _ _ D.TIz D.TITO D.TIi1 D.TIi2 h1),⟨_,_,hs2.extBut _ _ D.TOz a2⟩,a3.extBut hs2.extBut D.i1z,a4.extBut hs2.extBut D.i2z⟩,IT.2⟩
 done:=by
  intro X hP hw hK hc i pins s σ H E I hf st hg
  subst hP hw hK
  obtain⟨hz,h1,⟨u0,v0,h2⟩,s1,s2⟩:=st
  obtain⟨xs,ys,hq,hq',hx⟩:=hg
  obtain⟨its,rv,p,hzl⟩:=I.list hq
  obtain⟨its',rv',p',hzl'⟩:=I.list hq'
  have hl:=rv.length
  have hl':=rv'.length
  refine wpAny_pyNext_zip_end (I.ok.hd hc) D hz h1 h2 s1 s2 p.isList p'.isList (by rcases hx with q | q;exact .inl (by simp;omega);exact .inr (by simp;omega)) fun h' hk=>⟨rfl,I.turnedL (t':=s.toks) (its:=[z,TI,TO,i1,i2]) (fun b o hb e=>hk b o ?_ ?_ ?_ ?_ e) hf⟩
  ·exact fun q=>hb (by simp [q])
  ·exact fun q=>hb (by simp [q])
  ·exact fun q=>hb (by simp [q])
  ·exact fun q=>hb (by simp [q])
 self:=fun A i s Q E st h=>wpAny_pyIter_zip st.1 h
section
variable {X:Cx}
def iZip (K:PySem.W.Frag)(ta:TA):TI:=fun σ H R=>ta σ H fun vs H1=>∃ a b,vs=[.ref a,.ref b]∧(∃ xs,SqL K H1 a xs)∧(∃ ys,SqL K H1 b ys)∧R (Itz K a b) H1
theorem pi_zip {elts:List Expr}{x1}{pos':Pos}{a b:Expr}{ta:TA}{p pos:Pos}(hg:Gl X "zip")(hm:X.mg "zip"=none)(ha:PA X [a,b] ta)(hs:starEach [a,b] X.env=[(false,eval a X.env),(false,eval b X.env)]:=by rfl)(hs2:starEach [b] X.env=[(false,eval b X.env)]:=by rfl) :
  PI X (.Tuple elts x1 pos') (.Call (.Name "zip" p) [a,b] [] pos) (iZip X.K ta):=by
 intro pins s σ H R I h
 refine Call_ (zAq I hg hm boot_zip (PyProof.Rows.callWith_type1 (thn (ha pos pins s σ H _ I h) fun us s1 ⟨vs,H1,I1,r1,q1⟩=>?_) (by rw[hs,hs2]) (by rw[hs2];rfl)))
 obtain⟨a,b,e,⟨xs,hq⟩,⟨ys,hq'⟩,q⟩:=q1
 subst e
 cases r1 with
 | cons r rr =>
  cases rr with
  | cons r' rr =>
   cases rr
   cases r
   cases r'
   obtain⟨its,rv,p,hz⟩:=I1.list hq
   obtain⟨its',rv',p',hz'⟩:=I1.list hq'
   have la:a < s1.heap.objs.size:=by obtain⟨o,e1,_⟩:=p.isList;exact Heap.lt_size e1
   have lb:b < s1.heap.objs.size:=by obtain⟨o,e1,_⟩:=p'.isList;exact Heap.lt_size e1
   refine call_zip_2 p.isList p'.isList fun h' hz hTI hTO hi1 hi2 hsz hk=>?_
   have I2:Inv X pins σ H1 { s1 with heap:=h' }:=I1.kept (t':=s1.toks) hk
   refine wpAny_pyIter_zip hz ?_
   refine⟨_,_,_,_,H1,rfl,I2,turn_zip a b _ _ _ _ _ (zipApart_new la lb),⟨hz,hTI,⟨_,_,hTO⟩,hi1,hi2⟩,fun c hc=>?_,q⟩
   simp only [List.mem_cons,List.not_mem_nil,or_false] at hc
   rcases hc with rfl | rfl | rfl | rfl | rfl <;> exact I1.fpOk (by omega) (I1.hok.fresh (by omega))
end
theorem comp_enum {K:PySem.W.Frag}{a:Addr}{xs:List V}{g:TG}{tc:TT}{te:TE}{σ':St}{H:Hp}{Q:VK}(Pv:Nat→List V→Hp→Prop)(h0:Pv 0 [] H)(hl:∀ i ys H,i≤xs.length→Pv i ys H→SqL K H a xs)(hz:∀ i ys H,i < xs.length→Pv i ys H→ys.length < sizeLine)
  (hs:∀ i x ys H p,xs[i]?=some x→Pv i ys H→H p=none→g (.ref p) σ' (upd H p (.tup [.int i,x])) fun σ2 H2=>tc σ2 H2 fun b H3=>if b=true then te σ2 H3 fun y H4=>Pv (i+1) (ys ++ [y]) H4 else Pv (i+1) ys H3)(hd:∀ ys H,Pv xs.length ys H→∀ D,H D=none→Q (.ref D) (upd H D (.lst ys))) :
  zDq (Ite K a) g tc te σ' Q H:=by
 refine⟨fun i m ys H=>m=xs.length-i∧i≤xs.length∧Pv i ys H,⟨xs.length,by simp,Nat.zero_le _,h0⟩,?_⟩
 rintro i m ys H ⟨rfl,hi,p⟩
 have q:=hl i ys H hi p
 by_cases hlt:i < xs.length
 ·refine .inr ⟨⟨xs,xs[i],q,by simp [hlt]⟩,hz i ys H hlt p,Pv (i+1),fun ys' H' p'=>⟨xs.length-(i+1),by omega,rfl,hlt,p'⟩,fun x H' y=>?_⟩
  obtain⟨r,y,rfl,hr,hy,rfl⟩:=y
  exact hs i y ys _ r (hy xs q) p hr
 ·have e:i=xs.length:=by omega
  subst e
  exact .inl ⟨⟨xs,q,Nat.le_refl _⟩,hd ys H p⟩
theorem comp_zip {K:PySem.W.Frag}{a b:Addr}{xs ys:List V}{g:TG}{tc:TT}{te:TE}{σ':St}{H:Hp}{Q:VK}(hlen:xs.length=ys.length)(Pv:Nat→List V→Hp→Prop)(h0:Pv 0 [] H)(hl:∀ i rs H,i≤xs.length→Pv i rs H→SqL K H a xs∧SqL K H b ys)(hz:∀ i rs H,i < xs.length→Pv i rs H→rs.length < sizeLine)
  (hs:∀ i x y rs H p,xs[i]?=some x→ys[i]?=some y→Pv i rs H→H p=none→g (.ref p) σ' (upd H p (.tup [x,y])) fun σ2 H2=>tc σ2 H2 fun b H3=>if b=true then te σ2 H3 fun y H4=>Pv (i+1) (rs ++ [y]) H4 else Pv (i+1) rs H3)(hd:∀ rs H,Pv xs.length rs H→∀ D,H D=none→Q (.ref D) (upd H D (.lst rs))) :
  zDq (Itz K a b) g tc te σ' Q H:=by
 refine⟨fun i m rs H=>m=xs.length-i∧i≤xs.length∧Pv i rs H,⟨xs.length,by simp,Nat.zero_le _,h0⟩,?_⟩
 rintro i m rs H ⟨rfl,hi,p⟩
 have q:=hl i rs H hi p
 by_cases hlt:i < xs.length
 ·refine .inr ⟨⟨xs,ys,xs[i],ys[i],q.1,q.2,by simp [hlt],by simp⟩,hz i rs H hlt p,Pv (i+1),fun ys' H' p'=>⟨xs.length-(i+1),by omega,rfl,hlt,p'⟩,fun x H' y=>?_⟩
  obtain⟨r,x,y,rfl,hr,hx,hy,rfl⟩:=y
  exact hs i x y rs _ r (hx xs q.1) (hy ys q.2) p hr
 ·have e:i=xs.length:=by omega
  subst e
  exact .inl ⟨⟨xs,ys,q.1,q.2,.inl (Nat.le_refl _)⟩,hd rs H p⟩
theorem zBi {K:PySem.W.Frag}{n i j:Nat}(h:n≤i)(h':n≤j):Leaves n (gTup K 2 (gCons (zEr i) (gCons (zEr j) gNil))):=by
 rintro x σ H Q ⟨a,xs,rfl,hq,hl,v,r,rfl,v',r',rfl,rfl,q⟩
 exact⟨a,_,rfl,hq,hl,v,_,rfl,v',_,rfl,rfl,⟨by simp,fun k hk=>by rw[List.getElem?_set_ne (by omega),List.getElem?_set_ne (by omega)]⟩,q⟩
theorem bi_all:bootBuiltins "all"=some (.builtin "all"):=by decide +kernel
theorem bi_min:bootBuiltins "min"=some (.builtin "min"):=by decide +kernel
end L2
namespace L2
open PySem PySem.Spec PyProof.Rows PySem.SeqAt
mutual
inductive RdD (K:PySem.W.Frag)(H:Hp):V→PyData→Prop
 | non:RdD K H .non .none
 | bl (b:Bool):RdD K H (.bl b) (.bool b)
 | int (i:Int):RdD K H (.int i) (.int i)
 | str (x:Str):RdD K H (.str x) (.str x)
 | lst {a:Addr}{xs:List V}{ds:List PyData}:SqL K H a xs→RdDs K H xs ds→RdD K H (.ref a) (.list ds)
 | tup {a:Addr}{xs:List V}{ds:List PyData}:SqT K H a xs→RdDs K H xs ds→RdD K H (.ref a) (.tuple ds)
inductive RdDs (K:PySem.W.Frag)(H:Hp):List V→List PyData→Prop
 | nil:RdDs K H [] []
 | cons {x:V}{d:PyData}{xs:List V}{ds:List PyData}:RdD K H x d→RdDs K H xs ds→RdDs K H (x::xs) (d::ds)
end
section
variable {X:Cx}{pins:List (Addr×Obj)}{σ:St}{H:Hp}{s:Shared}
mutual
theorem zBl (I:Inv X pins σ H s):∀ {x:V}{d:PyData}{u:Value},RdD X.K H x d→RelV x u→∃ as,Reads s.heap u d as
 | _,_,_,.non,r=>by cases r;exact⟨_,.none⟩
 | _,_,_,.bl b,r=>by cases r;exact⟨_,.bool b⟩
 | _,_,_,.int i,⟨t,e⟩=>by subst e;exact⟨_,.int i t⟩
 | _,_,_,.str y,⟨t,e⟩=>by subst e;exact⟨_,.str y t⟩
 | _,_,_,.lst h hs,r=>by
  cases r
  obtain⟨its,rv,pl,_⟩:=I.list h
  obtain⟨as,ra⟩:=zBc I hs rv
  obtain⟨o,ho,hc,n,hd⟩:=pl.isList
  exact⟨_,.list ho hc hd ra⟩
 | _,_,_,.tup h hs,r=>by
  cases r
  obtain⟨its,rv,pl,_⟩:=I.tuple h
  obtain⟨as,ra⟩:=zBc I hs rv
  obtain⟨o,ho,hc,n,hd⟩:=pl
  exact⟨_,.tuple ho hc hd ra⟩
theorem zBc (I:Inv X pins σ H s):∀ {xs:List V}{ds:List PyData}{us:List Value},RdDs X.K H xs ds→Vals xs us→∃ as,ReadsAll s.heap us ds as
 | _,_,_,.nil,.nil=>⟨_,.nil⟩
 | _,_,_,.cons h t,.cons r rs=>by
  obtain⟨as,ra⟩:=zBl I h r
  obtain⟨bs,rb⟩:=zBc I t rs
  exact⟨_,.cons ra rb⟩
end
end
def rEqD (K:PySem.W.Frag):R2:=fun x y H Q=>∃ d e,RdD K H x d∧RdD K H y e∧shaped d=true∧shaped e=true∧noMix d e=true∧Q (.bl (same d e)) H
def rNeD (K:PySem.W.Frag):R2:=fun x y H Q=>∃ d e,RdD K H x d∧RdD K H y e∧shaped d=true∧shaped e=true∧noMix d e=true∧Q (.bl (!same d e)) H
theorem hu64 {A:Around}{k:Nat}(hr:zBu k A):A.units+64 < cLine:=by have:=hr.un;omega
section
variable {X:Cx}
theorem op_eqD (hu:X.A.units+64 < cLine):OpR X (compareOp .Eq) (rEqD X.K):=by
 intro pins s σ H x y v u Q I rx ry h
 obtain⟨d,e,h1,h2,s1,s2,nm,q⟩:=h
 obtain⟨as,ra⟩:=zBl I h1 rx
 obtain⟨bs,rb⟩:=zBl I h2 ry
 exact eq_dataH_same ra rb s1 s2 hu nm ⟨.bl _,H,I,rfl,q⟩
theorem op_neD (hu:X.A.units+64 < cLine):OpR X (compareOp .NotEq) (rNeD X.K):=by
 intro pins s σ H x y v u Q I rx ry h
 obtain⟨d,e,h1,h2,s1,s2,nm,q⟩:=h
 obtain⟨as,ra⟩:=zBl I h1 rx
 obtain⟨bs,rb⟩:=zBl I h2 ry
 exact ne_dataH_same ra rb s1 s2 hu nm ⟨.bl _,H,I,rfl,q⟩
end
theorem rd_ints {K:PySem.W.Frag}{H:Hp}:∀ ns:List Int,RdDs K H (ns.map V.int) (ns.map PyData.int)
 | []=>.nil
 | n::r=>.cons (.int n) (rd_ints r)
section
variable {X:Cx}
end
end L2
namespace Ld
def S:Nat→(Int→Int)→Int
 | 0,_=>0
 | n+1,F=>S n F+F n
theorem wL {F G:Int→Int}:∀ {n:Nat},(∀ j:Nat,j < n→F j=G j)→S n F=S n G
 | 0,_=>rfl
 | n+1,h=>by simp only [S];rw[wL fun j hj=>h j (by omega),h n (by omega)]
theorem S_zero:∀ n:Nat,S n (fun _=>0)=0
 | 0=>rfl
 | n+1=>by simp only [S];rw[S_zero n];rfl
theorem S_add (F G:Int→Int):∀ n:Nat,S n (fun j=>F j+G j)=S n F+S n G
 | 0=>rfl
 | n+1=>by simp only [S];rw[S_add F G n];omega
theorem S_swap (F:Int→Int→Int)(m:Nat):∀ n:Nat,S n (fun j=>S m (fun k=>F j k))=S m (fun k=>S n (fun j=>F j k))
 | 0=>by simp only [S];rw[S_zero]
 | n+1=>by simp only [S];rw[S_swap F m n,← S_add]
theorem S_one {c:Int}{G:Int→Int}:∀ {n:Nat},0≤c→S n (fun j=>if j=c then G j else 0)=if c < n then G c else 0
 | 0,h=>by simp only [S];rw[if_neg (by omega)]
 | n+1,h=>by
  simp only [S]
  rw[S_one h]
  by_cases e:(n:Int)=c
  ·subst e
   rw[if_neg (by omega),if_pos rfl,if_pos (by omega)];omega
  ·rw[if_neg e]
   by_cases q:c < (n:Int)
   ·rw[if_pos q,if_pos (by omega)];omega
   ·rw[if_neg q,if_neg (by omega)];omega
def Per (n:Nat)(F:Int→Int):Prop:=∀ x y:Int,x%n=y%n→F x=F y
theorem Per.md {n:Nat}{F:Int→Int}(h:Per n F)(x:Int):F (x%n)=F x:=h _ _ (Int.emod_emod_of_dvd x (Int.dvd_refl _))
theorem S_bij {n:Nat}(hn:0 < n){F:Int→Int}(hF:Per n F)(φ ψ:Int→Int)(hφ:∀ x y:Int,x%n=y%n→φ x%n=φ y%n)(hψ:∀ x y:Int,x%n=y%n→ψ x%n=ψ y%n)
  (h1:∀ x,ψ (φ x)%n=x%n)(h2:∀ x,φ (ψ x)%n=x%n):S n (fun j=>F (φ j))=S n F:=by
 have np:(0:Int) < n:=by omega
 have e1:S n (fun j=>F (φ j))=S n (fun j=>S n (fun k=>if k=φ j%n then F k else 0)):=wL fun j hj=>by
  rw[S_one (Int.emod_nonneg _ (by omega)),if_pos (Int.emod_lt_of_pos _ np),hF.md]
 rw[e1,S_swap]
 refine wL fun k hk=>?_
 have e2:S n (fun j=>if (k:Int)=φ j%n then F k else 0)=S n (fun j=>if j=ψ k%n then F k else 0):=wL fun j hj=>by
  have ej:(j:Int)%n=j:=Int.emod_eq_of_lt (by omega) (by omega)
  have ek:(k:Int)%n=k:=Int.emod_eq_of_lt (by omega) (by omega)
  have iff:((k:Int)=φ j%n)↔((j:Int)=ψ k%n):=by
   constructor
   ·intro e
    have:=hψ k (φ j) (by rw[ek];exact e)
    rw[this,h1,ej]
   ·intro e
    have:=hφ j (ψ k) (by rw[ej];exact e)
    rw[this,h2,ek]
  by_cases q:(k:Int)=φ j%n
  ·rw[if_pos q,if_pos (iff.mp q)]
  ·rw[if_neg q,if_neg fun z=>q (iff.mpr z)]
 rw[e2,S_one (G:=fun _=>F k) (Int.emod_nonneg _ (by omega)),if_pos (Int.emod_lt_of_pos _ np)]
theorem zEp {n x y:Int}(c:Int)(h:x%n=y%n):(x+c)%n=(y+c)%n:=by rw[Int.add_emod,h,← Int.add_emod]
theorem jC {n x y:Int}(c:Int)(h:x%n=y%n):(x*c)%n=(y*c)%n:=by rw[Int.mul_emod,h,← Int.mul_emod]
theorem zBf {n x y:Int}(c:Int)(h:x%n=y%n):(c-x)%n=(c-y)%n:=by rw[Int.sub_emod,h,← Int.sub_emod]
theorem S_refl {n:Nat}(hn:0 < n){F:Int→Int}(hF:Per n F)(c:Int):S n (fun j=>F (c-j))=S n F :=
 S_bij hn hF (fun j=>c-j) (fun j=>c-j) (fun x y h=>zBf c h) (fun x y h=>zBf c h) (fun x=>by congr 1;omega) (fun x=>by congr 1;omega)
theorem S_unit {n:Nat}(hn:0 < n){F:Int→Int}(hF:Per n F){u v:Int}(huv:(u*v)%n=1%n):S n (fun j=>F (j*u))=S n F:=by
 have one:∀ x:Int,(x*(u*v))%n=x%n:=fun x=>by rw[Int.mul_emod,huv,← Int.mul_emod,Int.mul_one]
 refine S_bij hn hF (fun j=>j*u) (fun j=>j*v) (fun x y h=>jC u h) (fun x y h=>jC v h) (fun x=>?_) (fun x=>?_)
 ·show (x*u*v)%n=_
  rw[Int.mul_assoc];exact one x
 ·show (x*v*u)%n=_
  rw[Int.mul_assoc,Int.mul_comm v u];exact one x
def at' (a:List Int)(x:Int):Int:=a.getD (x%a.length).toNat 0
theorem at_per (a:List Int):Per a.length (at' a):=fun x y h=>by unfold at';rw[h]
theorem vG {a:List Int}{n:Nat}(h:a.length=n):Per n (at' a):=h▸at_per a
theorem zBg {n:Nat}(hn:0 < n)(x:Int):(x%n).toNat < n:=by
 have h1:=Int.emod_nonneg x (show (n:Int)≠0 by omega)
 have h2:=Int.emod_lt_of_pos x (show (0:Int) < n by omega)
 omega
theorem zDu {n:Nat}(hn:0 < n)(x:Int):(((x%n).toNat:Nat):Int)=x%n:=Int.toNat_of_nonneg (Int.emod_nonneg x (by omega))
theorem zAz {a:List Int}{x:Int}(h:0 < a.length):a[(x%a.length).toNat]?=some (at' a x):=by
 have:=zBg h x
 unfold at'
 rw[List.getD_eq_getElem?_getD,List.getElem?_eq_getElem this];rfl
theorem at_nat {a:List Int}{k:Nat}{v:Int}(h:a[k]?=some v):at' a k=v:=by
 have hk:k < a.length:=(List.getElem?_eq_some_iff.mp h).1
 unfold at'
 rw[Int.emod_eq_of_lt (by omega) (by omega),Int.toNat_natCast,List.getD_eq_getElem?_getD,h];rfl
theorem get_at {a:List Int}{k:Nat}(h:k < a.length):a[k]?=some (at' a k):=by
 rw[List.getElem?_eq_getElem h];exact congrArg some (at_nat (List.getElem?_eq_getElem h)).symm
theorem ext {a b:List Int}(hl:a.length=b.length)(h:∀ k:Nat,k < a.length→at' a k=at' b k):a=b:=by
 refine List.ext_getElem? fun k=>?_
 by_cases hk:k < a.length
 ·rw[get_at hk,get_at (hl▸hk),h k hk]
 ·rw[List.getElem?_eq_none (by omega),List.getElem?_eq_none (by omega)]
theorem at_set {a:List Int}{n:Nat}(hl:a.length=n)(hn:0 < n)(x v y:Int):at' (a.set (x%n).toNat v) y=if y%n=x%n then v else at' a y:=by
 have hx:=zBg hn x
 have hy:=zBg hn y
 unfold at'
 rw[List.length_set,hl,List.getD_eq_getElem?_getD,List.getElem?_set]
 by_cases e:y%n=x%n
 ·rw[if_pos e,e,if_pos rfl,if_pos (by omega)];rfl
 ·rw[if_neg e,if_neg fun z=>e ?_,← List.getD_eq_getElem?_getD]
  have:=congrArg (Nat.cast (R:=Int)) z
  rw[zDu hn,zDu hn] at this
  exact this.symm
theorem at_rep (n:Nat)(x:Int):at' (List.replicate n 0) x=0:=by
 unfold at'
 rw[List.getD_eq_getElem?_getD,List.getElem?_replicate]
 split <;> rfl
def plus (a b:List Int):List Int:=List.zipWith (· + ·) a b
theorem jM {a b:List Int}(h:a.length=b.length):(plus a b).length=a.length:=by simp [plus,h]
theorem at_plus {a b:List Int}(h:a.length=b.length)(hn:0 < a.length)(x:Int):at' (plus a b) x=at' a x+at' b x:=by
 have e:=zAz (a:=plus a b) (x:=x) (by rw[jM h];exact hn)
 rw[jM h] at e
 unfold plus at e
 rw[List.getElem?_zipWith,zAz hn,show (x%a.length).toNat=(x%b.length).toNat by rw[h],zAz (by omega)] at e
 exact (Option.some.inj e).symm
def scaled (a:List Int)(m:Int):List Int:=a.map (· * m)
theorem wH (a:List Int)(m:Int):(scaled a m).length=a.length:=by simp [scaled]
theorem at_scaled {a:List Int}(hn:0 < a.length)(m x:Int):at' (scaled a m) x=at' a x*m:=by
 have e:=zAz (a:=scaled a m) (x:=x) (by rw[wH];exact hn)
 rw[wH] at e
 unfold scaled at e
 rw[List.getElem?_map,zAz hn] at e
 exact (Option.some.inj e).symm
def conv (a b:List Int):List Int:=(List.range b.length).map fun x:Nat=>S b.length fun j=>at' a j*at' b ((x:Int)-j)
theorem zDm (a b:List Int):(conv a b).length=b.length:=by simp [conv]
theorem per_conv {a b:List Int}{n:Nat}(h:b.length=n):Per n fun x=>S n fun j=>at' a j*at' b (x-j):=fun x y e=>wL fun j _=>by
 have:at' b (x-j)=at' b (y-j):=vG h _ _ (by rw[Int.sub_emod,e,← Int.sub_emod])
 rw[this]
theorem at_conv {a b:List Int}{n:Nat}(h:b.length=n)(hn:0 < n)(x:Int):at' (conv a b) x=S n fun j=>at' a j*at' b (x-j):=by
 subst h
 have e:=zAz (a:=conv a b) (x:=x) (by rw[zDm];exact hn)
 rw[zDm] at e
 unfold conv at e
 rw[List.getElem?_map,List.getElem?_range (zBg hn x)] at e
 have e':=Option.some.inj e
 unfold conv
 rw[← e']
 show (S b.length fun j=>at' a j*at' b (((x%b.length).toNat:Nat)-j))=_
 rw[zDu hn]
 exact (per_conv (a:=a) (b:=b) rfl).md x
theorem zDx {n:Nat}{F:Int→Int}(h:Per n F)(c:Int):Per n fun j=>F (c-j):=fun x y e=>h _ _ (zBf c e)
theorem per_mul {n:Nat}{F G:Int→Int}(h:Per n F)(g:Per n G):Per n fun j=>F j*G j:=fun x y e=>by show F x*G x=_;rw[h x y e,g x y e]
def Bd (B:Nat)(a:List Int):Prop:=∀ x∈a,x.natAbs≤B
theorem zEl {B C:Nat}{a:List Int}(h:Bd B a)(l:B≤C):Bd C a:=fun x hx=>Nat.le_trans (h x hx) l
theorem bd_set {B C:Nat}{a:List Int}{k:Nat}{v:Int}(h:Bd B a)(l:B≤C)(hv:v.natAbs≤C):Bd C (a.set k v):=fun x hx=>by
 rcases List.mem_or_eq_of_mem_set hx with z | z
 ·exact Nat.le_trans (h x z) l
 ·rw[z];exact hv
theorem bd_rep (B n:Nat):Bd B (List.replicate n 0):=fun x hx=>by rw[(List.mem_replicate.mp hx).2];exact Nat.zero_le _
theorem at_bd {B:Nat}{a:List Int}(h:Bd B a)(x:Int):(at' a x).natAbs≤B:=by
 unfold at'
 rw[List.getD_eq_getElem?_getD]
 cases e:a[(x%a.length).toNat]? with
 | none=>exact Nat.zero_le _
 | some v=>exact h v (List.mem_of_getElem? e)
theorem bd_of {B:Nat}{a:List Int}(h:∀ k:Nat,k < a.length→(at' a k).natAbs≤B):Bd B a:=fun x hx=>by
 obtain⟨k,hk,rfl⟩:=List.mem_iff_getElem.mp hx
 have:=h k hk
 rwa [at_nat (List.getElem?_eq_getElem hk)] at this
theorem bd_plus {B C:Nat}{a b:List Int}(e:a.length=b.length)(ha:Bd B a)(hb:Bd C b):Bd (B+C) (plus a b):=bd_of fun k hk=>by
 rw[jM e] at hk
 rw[at_plus e (by omega)]
 have:=at_bd ha k
 have:=at_bd hb k
 omega
theorem bd_scaled {B C:Nat}{a:List Int}{m:Int}(ha:Bd B a)(hm:m.natAbs≤C):Bd (B*C) (scaled a m):=fun x hx=>by
 obtain⟨y,hy,rfl⟩:=List.mem_map.mp hx
 rw[Int.natAbs_mul]
 exact Nat.mul_le_mul (ha y hy) hm
end Ld
namespace Ld
def nz (a:List Int)(i:Nat):List (Int×Int):=((List.range i).map fun j:Nat=>((j:Int),at' a j)).filter fun p=>decide (¬ p.2=0)
theorem nz_succ (a:List Int)(i:Nat):nz a (i+1)=nz a i ++ (if at' a i=0 then [] else [((i:Int),at' a i)]):=by
 unfold nz
 rw[List.range_succ,List.map_append,List.filter_append]
 congr 1
 by_cases h:at' a i=0 <;> simp [h]
theorem nz_len (a:List Int)(i:Nat):(nz a i).length≤i:=by
 unfold nz
 refine Nat.le_trans (List.length_filter_le _ _) ?_
 simp
theorem lay0 {m:Nat}(a b:List Int)(i:Nat){d:List Int}(h:∀ x,at' d x=S i fun j=>at' a j*at' b (x-j))(hm:0 < m) :
  ∀ x,at' d x=(S i fun j=>at' a j*at' b (x-j))+(if (x-i)%m < (0:Nat) then at' a i*at' b (x-i) else 0):=fun x=>by
 have:=Int.emod_nonneg (x-i) (show (m:Int)≠0 by omega)
 rw[if_neg (by omega),Int.add_zero];exact h x
theorem lay1 {m:Nat}{a b d:List Int}{i k:Nat}(hd:d.length=m)(hb:b.length=m)(hk:k < m)
  (h:∀ x,at' d x=(S i fun j=>at' a j*at' b (x-j))+(if (x-i)%m < k then at' a i*at' b (x-i) else 0)) :
  ∀ x,at' (d.set (((i:Int)+k)%m).toNat (at' d ((i:Int)+k)+at' a i*at' b k)) x=(S i fun j=>at' a j*at' b (x-j))+(if (x-i)%m < ((k+1:Nat):Int) then at' a i*at' b (x-i) else 0):=fun x=>by
 have hm:0 < m:=by omega
 have km:(k:Int)%m=k:=Int.emod_eq_of_lt (by omega) (by omega)
 rw[at_set hd hm]
 by_cases e:x%m=((i:Int)+k)%m
 ·have ek:(x-i)%m=k:=by
   rw[Int.sub_emod,e,← Int.sub_emod,show (i:Int)+k-i=k by omega,km]
  rw[if_pos e,ek,if_pos (by omega),h]
  have e1:S i (fun j=>at' a j*at' b ((i:Int)+k-j))=S i (fun j=>at' a j*at' b (x-j)):=wL fun j _=>by
   rw[vG hb ((i:Int)+k-j) (x-j) (by rw[Int.sub_emod,← e,← Int.sub_emod])]
  rw[e1,show (i:Int)+k-i=k by omega,km,if_neg (by omega),vG hb (x-i) k (by rw[ek,km])]
  omega
 ·have ek:(x-i)%m≠k:=fun z=>e (by
   have:((x-i)%m+i)%m=((k:Int)+i)%m:=by rw[z]
   rw[Int.emod_add_emod,show x-i+i=x by omega,Int.add_comm (k:Int)] at this
   exact this)
  rw[if_neg e,h]
  by_cases q:(x-i)%m < k
  ·rw[if_pos q,if_pos (by omega)]
  ·rw[if_neg q,if_neg (by omega)]
theorem lay2 {m:Nat}{a b d:List Int}{i:Nat}(hm:0 < m)
  (h:∀ x,at' d x=(S i fun j=>at' a j*at' b (x-j))+(if (x-i)%m < ((m:Nat):Int) then at' a i*at' b (x-i) else 0)):∀ x,at' d x=S (i+1) fun j=>at' a j*at' b (x-j):=fun x=>by
 rw[h,if_pos (Int.emod_lt_of_pos _ (by omega))];rfl
theorem bd_plus' {B:Nat}{a b:List Int}(e:a.length=b.length)(ha:Bd (2^B) a)(hb:Bd (2^B) b):Bd (2^(B+1)) (plus a b):=by
 refine zEl (bd_plus e ha hb) ?_
 rw[Nat.pow_succ];omega
theorem zFv {B C:Nat}{a:List Int}{m:Int}(ha:Bd (2^B) a)(hm:m.natAbs≤2^C):Bd (2^(B+C)) (scaled a m):=by
 rw[Nat.pow_add];exact bd_scaled ha hm
end Ld
namespace L2
open PySem PySem.Spec PyProof.Rows PySem.SeqAt
theorem ixN_in {n:Nat}{k:Int}(h0:0≤k)(h1:k < n):ixN n k=some k.toNat:=by unfold ixN;rw[if_pos h0,if_pos h1]
theorem zEb {xs:List V}{n:Nat}(hl:xs.length=n)(hn:0 < n)(x:Int):ixN xs.length (x%n)=some (x%n).toNat:=by
 rw[hl];exact ixN_in (Int.emod_nonneg _ (by omega)) (Int.emod_lt_of_pos _ (by omega))
theorem mlen {a:List Int}{n:Nat}(hl:a.length=n):(a.map V.int).length=n:=by rw[List.length_map,hl]
theorem atI_mod {a:List Int}{n:Nat}(hl:a.length=n)(hn:0 < n)(x:Int):atI (a.map V.int) (x%n)=some (.int (Ld.at' a x)):=by
 subst hl
 unfold atI
 rw[zEb (mlen rfl) hn]
 show (a.map V.int)[(x%(a.length:Int)).toNat]?=_
 rw[List.getElem?_map,Ld.zAz hn];rfl
theorem atI_k {a:List Int}{k:Int}(h0:0≤k)(hk:k < a.length):atI (a.map V.int) k=some (.int (Ld.at' a k)):=by
 have:=atI_mod (a:=a) rfl (by omega) k
 rwa [Int.emod_eq_of_lt h0 hk] at this
theorem rep0 (m:Nat):(List.replicate ((m:Nat):Int).toNat [V.int 0]).flatten=(List.replicate m (0:Int)).map V.int:=by
 rw[Int.toNat_natCast]
 induction m with
 | zero=>rfl
 | succ k ih=>rw[List.replicate_succ,List.flatten_cons,ih,List.replicate_succ,List.map_cons];rfl
theorem set_int {a:List Int}{j:Nat}{v:Int}:(a.map V.int).set j (.int v)=(a.set j v).map V.int:=by rw[List.map_set]
theorem wX {l:List Int}{i:Nat}{v:Int}(h:l[i]?=some v):(l.take (i+1)).map V.int=(l.take i).map V.int ++ [.int v]:=by
 rw[List.take_succ,h,List.map_append];rfl
theorem jJ {l:List Int}{n:Nat}(h:l.length=n):(l.take n).map V.int=l.map V.int:=by rw[← h,List.take_length]
theorem ref_at {as:List Addr}{i:Nat}{x:V}(h:(as.map V.ref)[i]?=some x):∃ a,x=.ref a∧as[i]?=some a:=by
 rw[List.getElem?_map] at h
 cases e:as[i]? with
 | none=>rw[e] at h;cases h
 | some v=>rw[e] at h;cases h;exact⟨v,rfl,rfl⟩
theorem mulB {a b:Int}{B C:Nat}(ha:a.natAbs≤2^B)(hb:b.natAbs≤2^C)(h:B+C≤1000000):IntMulOk a b :=
 mul_ok (m:=B+1) (n:=C+1) (Nat.lt_of_le_of_lt ha (Nat.pow_lt_pow_right (by decide) (Nat.lt_succ_self _))) (Nat.lt_of_le_of_lt hb (Nat.pow_lt_pow_right (by decide) (Nat.lt_succ_self _))) (by omega)
theorem zFh {n:Nat}{g:TG}{tb:TS}{D:Ends}{σ:St}{H:Hp}(Pv:Nat→St→Hp→Prop)(h0:Pv 0 σ H)
  (hs:∀ i σ H,i < n→Pv i σ H→g (.int i) σ H fun σ2 H2=>tb { D with nx:=Pv (i+1),ct:=Pv (i+1),bk:=D.nx } σ2 H2)(hd:∀ σ H,Pv n σ H→D.nx σ H) :
  ∃ W:Nat→Nat→St→Hp→Prop,(∃ m,W 0 m σ H)∧∀ i m σ H,W i m σ H →
   ((Itr 0 n).stop i H∧D.nx σ H)∨((Itr 0 n).go i H∧∃ N:St→Hp→Prop,(∀ σ' H',N σ' H'→∃ m',m' < m∧W (i+1) m' σ' H')∧∀ x H',(Itr 0 n).yld i H x H'→g x σ H' fun σ2 H2=>tb { D with nx:=N,ct:=N,bk:=D.nx } σ2 H2) :=
 for_range Pv h0 (fun i σ H hi p=>by rw[Int.zero_add];exact hs i σ H hi p) hd
theorem zEo {n:Nat}{g:TG}{tc:TT}{te:TE}{σ':St}{H:Hp}{Q:VK}(Pv:Nat→List V→Hp→Prop)(h0:Pv 0 [] H)(hz:∀ i ys H,i < n→Pv i ys H→ys.length < sizeLine)
  (hs:∀ i ys H,i < n→Pv i ys H→g (.int i) σ' H fun σ2 H2=>tc σ2 H2 fun b H3=>if b=true then te σ2 H3 fun y H4=>Pv (i+1) (ys ++ [y]) H4 else Pv (i+1) ys H3)(hd:∀ ys H,Pv n ys H→∀ D,H D=none→Q (.ref D) (upd H D (.lst ys))) :
  zDq (Itr 0 n) g tc te σ' Q H:=zCi Pv h0 hz (fun i ys H hi p=>by rw[Int.zero_add];exact hs i ys H hi p) hd
theorem ixN_modE {xs:List V}{n:Nat}(hl:xs.length=n)(hn:0 < n){x:Int}(hx:x%n=x):ixN xs.length x=some (x%n).toNat:=(congrArg (ixN xs.length) hx.symm).trans (zEb hl hn x)
end L2
namespace L2
open PySem PySem.Spec PyProof.Rows
def cnt3 (lo hi st:Int):Nat:=if lo < hi then ((hi-lo-1)/st+1).toNat else 0
theorem size3 {lo hi st:Int}(h:0 < st):Builtin.Range.rangeSize lo hi st=(cnt3 lo hi st:Nat):=by
 unfold Builtin.Range.rangeSize cnt3
 rw[if_pos h]
 split
 ·have:=Int.ediv_nonneg (show 0≤hi-lo-1 by omega) (show 0≤st by omega)
  omega
 ·rfl
theorem cnt3_le {lo hi st:Int}(h:0 < st)(h0:0≤lo)(h1:hi≤1000000):cnt3 lo hi st≤1000000:=by
 unfold cnt3
 split
 ·have:=Int.ediv_le_self (b:=st) (show 0≤hi-lo-1 by omega)
  omega
 ·omega
section
variable {X:Cx}{tg:Expr}
end
def TrAt (H:Hp)(r:Addr)(ts:List (Int×Int×Int)):Prop:=∃ as:List Addr,H r=some (.lst (as.map V.ref))∧Paired (fun a (x:Int×Int×Int)=>H a=some (.tup [.int x.1,.int x.2.1,.int x.2.2])) as ts
theorem TrAt.same {H H':Hp}{r:Addr}{ts:List (Int×Int×Int)}(h:TrAt H r ts)(s:zP H H'):TrAt H' r ts:=let ⟨as,h1,h2⟩:=h;⟨as,s _ _ h1,Paired.mapP h2 fun d x e=>s _ _ e⟩
end L2
namespace L2
open PySem PySem.Spec PyProof.Rows PySem.SeqAt
section
variable {X:Cx}
end
abbrev d3 (t:Int×Int×Int):PyData:=.tuple [.int t.1,.int t.2.1,.int t.2.2]
end L2
namespace L2
open PySem PySem.Spec PyProof.Rows
theorem pick_vals {ns:List Int}{its:List Value}(r:Vals (ns.map V.int) its):∀ is:List Nat,Vals ((is.filterMap fun i=>ns[i]?).map V.int) (is.filterMap fun i=>its.toArray[i]?)
 | []=>.nil
 | i::is=>by
  have ih:=pick_vals r is
  rw[List.filterMap_cons,List.filterMap_cons]
  have e:its.toArray[i]?=its[i]?:=by simp
  cases h:ns[i]? with
  | none =>
   have hl:=r.length
   rw[List.length_map] at hl
   have:its[i]?=none:=List.getElem?_eq_none (by have:=List.getElem?_eq_none_iff.mp h;omega)
   rw[e,this]
   exact ih
  | some v =>
   obtain⟨u,hu,ru⟩:=r.get (i:=i) (x:=.int v) (by rw[List.getElem?_map,h];rfl)
   rw[e,hu]
   exact .cons ru ih
section
variable {X:Cx}{e:Expr}{te:TE}{lo:Option Expr}{tl:TO}{pos p2 p3:Pos}
end
end L2
namespace L2
open PySem PySem.Spec PyProof.Rows
section
variable {X:Cx}{e hi:Expr}{te:TE}{lo:Option Expr}{tl tu:TO}{pos p2 p3:Pos}
end
end L2
namespace L2
open PySem PySem.Spec PyProof.Rows
end L2
namespace L2
open PySem PySem.Spec PyProof.Rows PySem.SeqAt
theorem vals_bl:∀ {bs:List Bool}{its:List Value},Vals (bs.map V.bl) its→its=bs.map Value.bool
 | [],_,.nil=>rfl
 | b::r,_,.cons e rs=>by
  have e':_=Value.bool b:=e
  rw[List.map_cons,← vals_bl rs,← e']
theorem range_all' (bs:List Bool):((List.range bs.length).all fun i=>(bs[i]?).getD true)=bs.all id:=by
 rw[Bool.eq_iff_iff,List.all_eq_true,List.all_eq_true]
 constructor
 ·intro h b hb
  obtain⟨i,hi,e⟩:=List.getElem_of_mem hb
  have:=h i (List.mem_range.mpr hi)
  simp only [List.getElem?_eq_getElem hi,Option.getD_some,e] at this
  exact this
 ·intro h i hi
  have hi':=List.mem_range.mp hi
  simp only [List.getElem?_eq_getElem hi',Option.getD_some]
  exact h _ (List.getElem_mem hi')
theorem kept_it {s:Shared}{h':Heap}{o:Obj}(hk:∀ b x,b∉[s.heap.objs.size]→(s.heap.push o).get? b=some x→h'.get? b=some x):∀ b x,s.heap.get? b=some x→h'.get? b=some x :=
 fun b x e=>hk b x (fun hm=>by rw[List.mem_singleton.mp hm] at e;exact Nat.lt_irrefl _ (Heap.lt_size e)) (Heap.get?_push_of_some _ e)
section
variable {X:Cx}
theorem zEa (hc:X.calm=true):j4 X (.builtin "all") (fun xs H Q=>∃ (a:Addr)(bs:List Bool),xs=[.ref a]∧SqL X.K H a (bs.map V.bl)∧Q (.bl (bs.all id)) H):=by
 intro pins s σ H xs us Q I r h
 obtain⟨a,bs,rfl,hl,q⟩:=h
 obtain⟨u,rfl,ru⟩:=vals1 r
 cases ru
 obtain⟨its,rv,pl,_⟩:=I.list hl
 have ei:=vals_bl rv
 subst ei
 have hL:=pl.isList
 have hlt:a < s.heap.objs.size:=by obtain⟨_,e,_⟩:=hL;exact Heap.lt_size e
 refine call_all_walk (wpAny_pyIter_list hL ?_)
 refine⟨s.heap.objs.size,[s.heap.objs.size,a],[s.heap.objs.size],(bs.map Value.bool).toArray.size,_,_,fun i=>(bs[i]?).getD true,rfl,Walks.list (A:=X.A.in1) (I.ok.hd hc) _ a (Nat.ne_of_lt hlt) (bs.map Value.bool).toArray,
  ⟨⟨_,Heap.get?_push_size _ rfl,rfl,rfl⟩,hL.push _⟩,fun i v s' Q' E' hP hQ=>?_,fun h' tk hk=>?_⟩
 ·have hP':(bs.map Value.bool)[i]?=some v:=by simpa using hP
  rw[List.getElem?_map] at hP'
  cases e:bs[i]? with
  | none=>rw[e] at hP';cases hP'
  | some b =>
   rw[e] at hP'
   cases hP'
   simp only [e,Option.getD_some] at hQ
   exact wpAny_truthy_bool hQ
 ·have e:((List.range (bs.map Value.bool).toArray.size).all fun i=>(bs[i]?).getD true)=bs.all id:=by
   rw[List.size_toArray,List.length_map];exact range_all' bs
  rw[e]
  exact⟨.bl _,H,I.kept (t':=tk) (kept_it hk),rfl,q⟩
end
end L2
namespace L2
open PySem PySem.Spec PyProof.Rows PySem.SeqAt
section
variable {X:Cx}
abbrev bts (i:Int):Int:=((Builtin.Int.intBits i:Nat):Int)
def rBits:V→List V→Hp→VK→Prop:=fun x vs H Q=>∃ i:Int,x=.int i∧vs=[]∧Q (.int (bts i)) H
theorem mt_bits:MtM X "int.bit_length" rBits:=by
 intro pins s σ H x vs v us Q I rx rv h
 obtain⟨i,rfl,rfl,q⟩:=h
 cases rv
 obtain⟨t,rfl⟩:=rx
 exact call_int_bit_length ⟨.int (bts i),H,I.tok _,⟨_,rfl⟩,q⟩
theorem bts_zero {i:Int}(h:¬ bts i > 0):i=0:=by
 unfold bts Builtin.Int.intBits at h
 by_cases e:i=0
 ·exact e
 ·rw[if_neg (by simpa using e)] at h;omega
theorem bts_pos {i:Int}(h:bts i > 0):¬ i=0:=by
 rintro rfl
 exact absurd h (by decide)
theorem bts_le {i:Int}(h:i.natAbs < 2^64):bts i≤64:=by
 have:=PyProof.Rows.intBits_le h
 unfold bts;omega
theorem zBy:∀ {l:List Value}{n:Nat}{F:Nat→V},l.length=n→(∀ (j:Nat) v,l[j]?=some v→RelV (F j) v)→Vals ((List.range n).map F) l
 | [],n,F,hl,_=>by cases hl;exact .nil
 | v::l,n,F,hl,h=>by
  cases hl
  have e:(List.range (v::l).length).map F=F 0::(List.range l.length).map (fun j=>F (j+1)):=by
   rw[List.length_cons,List.range_succ_eq_map,List.map_cons,List.map_map];rfl
  rw[e]
  exact .cons (h 0 v rfl) (zBy rfl fun j u hj=>h (j+1) u hj)
def rg3 (lo st:Int)(n:Nat):List Int:=(List.range n).map fun (i:Nat)=>lo+(i:Int)*st
def tLR3 (ta:TA):TE:=fun σ H Q=>ta σ H fun vs H1=>∃ i j k:Int,vs=[.int i,.int j,.int k]∧(0≤i∧i≤1000000∧0≤j∧j≤1000000∧0 < k∧k≤1000000)∧∀ l,H1 l=none→Q (.ref l) (upd H1 l (.lst ((rg3 i k (cnt3 i j k)).map V.int)))
theorem pe_lrng3 {a b c:Expr}{ta:TA}{p p2 pos pos2:Pos}(hcm:X.calm=true)(hgl:Gl X "list")(hml:X.mg "list"=none)(hg:Gl X "range")(hm:X.mg "range"=none)(ha:PA X [a,b,c] ta)
  (he:starEach [a,b,c] X.env=(false,eval a X.env)::starEach [b,c] X.env:=by rfl)(hpl:(backTo pos2 (starEach [b,c] X.env)).any (·.1)=false:=by rfl)
  (he2:starEach [.Call (.Name "range" p2) [a,b,c] [] pos2] X.env=(false,eval (.Call (.Name "range" p2) [a,b,c] [] pos2) X.env)::starEach [] X.env:=by rfl) :
  PE X (.Call (.Name "list" p) [.Call (.Name "range" p2) [a,b,c] [] pos2] [] pos) (tLR3 ta):=by
 intro pins s σ H Q I h
 refine wpAny_Call_Name_kw (zAq I hgl hml zEn ?_)
 refine PyProof.Rows.callWith_type1 ?_ he2 rfl
 rw[he2]
 show wpAny _ _ (spliced ((false,eval (.Call (.Name "range" p2) [a,b,c] [] pos2) X.env)::backTo pos (starEach [] X.env))) _ _ s
 refine Calls.spliced_cons ?_
 refine Call_ (zAq I hg hm boot_range (PyProof.Rows.callWith_type1 (thn (ha pos2 pins s σ H _ I h) fun us s1 ⟨vs,H1,I1,r1,q1⟩=>?_) he hpl))
 obtain⟨i,j,k,e,⟨q1,q2,q3,q4,q5,q6⟩,q⟩:=q1
 subst e
 cases r1 with
 | cons r rr =>
  cases rr with
  | cons r' rr =>
   cases rr with
   | cons r'' rr =>
    cases rr
    obtain⟨t,rfl⟩:=r
    obtain⟨t',rfl⟩:=r'
    obtain⟨t'',rfl⟩:=r''
    refine call_range_3 (by omega) ?_ (.inl (PyProof.noPylong_small (by omega)))
    have c3:=cnt3_le (lo:=i) q5 q1 q4
    have sm:Builtin.Range.small i j k=true:=by
     unfold Builtin.Range.small
     rw[size3 q5]
     simp only [Builtin.Range.rangeFitsLong,Bool.and_eq_true,Bool.or_eq_true,decide_eq_true_eq,beq_iff_eq,q5,if_true,gt_iff_lt]
     omega
    have I2:Inv X pins σ H1 { s1 with heap:=s1.heap.push { cls:=.type "range",data:=.fields #[.int i t,.int j t',.int k t''] },toks:=s1.toks }:=I1.kept fun b o e=>Heap.get?_push_of_some _ e
    refine Calls.spliced_nil ?_
    refine call_list_range (n:=cnt3 i j k) (I2.ok.hd hcm) (IsRange.new ..) sm (size3 q5) (by omega) fun h' tk acc' c' kp e items=>?_
    have vals:Vals ((rg3 i k (cnt3 i j k)).map V.int) acc'.toList:=by
     unfold rg3
     rw[List.map_map]
     refine zBy (by rw[Array.length_toList];exact items.1) fun m v hm=>?_
     have:=items.2 m v (by rw[← Array.getElem?_toList];exact hm)
     obtain⟨t,rfl⟩:=this
     exact⟨t,rfl⟩
    have hz:((rg3 i k (cnt3 i j k)).map V.int).length≤sizeLine:=by
     unfold rg3;rw[List.length_map,List.length_map,List.length_range];exact Nat.le_trans c3 (by decide)
    refine⟨.ref _,_,I2.laid (t':=tk) kp (Nat.le_refl _) (show vY X.prog X.w _ h' _ (.lst ((rg3 i k (cnt3 i j k)).map V.int)) from ⟨hz,acc'.toList,c',vals,by simpa using e⟩),rfl,q _ (I2.hok.fresh (Nat.le_refl _))⟩
end
end L2
namespace L2
open PySem PySem.Spec PyProof.Rows
section
variable {κ:Type} [DecidableEq κ]
def valV (kvs:List (κ×V))(k:κ):Option V:=(kvs.find? fun kv=>decide (kv.1=k)).map (·.2)
def putK (kvs:List (κ×V))(k:κ)(v:V):List (κ×V) :=
 if (kvs.any fun kv=>decide (kv.1=k))=true then kvs.map (fun kv=>if kv.1=k then (kv.1,v) else kv) else kvs ++ [(k,v)]
def dropK (kvs:List (κ×V))(k:κ):List (κ×V):=kvs.filter fun kv=>decide (kv.1≠k)
theorem valV_pos {p:κ×V}{r:List (κ×V)}{k:κ}(e:p.1=k):valV (p::r) k=some p.2:=by simp [valV,List.find?_cons,e]
theorem valV_neg {p:κ×V}{r:List (κ×V)}{k:κ}(e:¬ p.1=k):valV (p::r) k=valV r k:=by simp [valV,List.find?_cons,e]
theorem valV_any (k:κ):∀ kvs:List (κ×V),(kvs.any fun kv=>decide (kv.1=k))=(valV kvs k).isSome
 | []=>rfl
 | p::r=>by
  rw[List.any_cons]
  by_cases e:p.1=k
  ·simp only [valV_pos e,decide_eq_true e,Bool.true_or,Option.isSome_some]
  ·rw[valV_neg e,decide_eq_false e,Bool.false_or];exact valV_any k r
theorem RelO.isSome_eq {o:Option V}{u:Option Value}(r:RelO o u):o.isSome=u.isSome:=by
 cases o with
 | none=>cases u with
  | none=>rfl
  | some _=>exact (show False from r).elim
 | some _=>cases u with
  | none=>exact (show False from r).elim
  | some _=>rfl
theorem RelO.getD {o:Option V}{u:Option Value}{d:V}{d':Value}(r:RelO o u)(rd:RelV d d'):RelV (o.getD d) (u.getD d'):=by
 cases o with
 | none=>cases u with
  | none=>exact rd
  | some _=>exact (show False from r).elim
 | some _=>cases u with
  | none=>exact (show False from r).elim
  | some _=>exact r
theorem KV.val {kvs:List (κ×V)}{vs:List (κ×Value)}(r:KV kvs vs)(k:κ):RelO (valV kvs k) (valueAt vs k):=by
 unfold KV at r
 induction r with
 | nil=>exact True.intro
 | @cons p q ps qs h t ih =>
  obtain⟨h1,h2⟩:=h
  by_cases e:p.1=k
  ·have e':q.1=k:=h1.symm.trans e
   have b:valueAt (q::qs) k=some q.2:=by simp [valueAt,List.find?_cons,e']
   rw[valV_pos e,b];exact h2
  ·have e':¬ q.1=k:=fun z=>e (h1.trans z)
   have b:valueAt (q::qs) k=valueAt qs k:=by simp [valueAt,List.find?_cons,e']
   rw[valV_neg e,b];exact ih
theorem KV.any {kvs:List (κ×V)}{vs:List (κ×Value)}(r:KV kvs vs)(k:κ):(kvs.any fun kv=>decide (kv.1=k))=vs.any fun kv=>decide (kv.1=k):=by
 unfold KV at r
 induction r with
 | nil=>rfl
 | cons h t ih=>rw[List.any_cons,List.any_cons,ih,h.1]
theorem KV.repl {kvs:List (κ×V)}{vs:List (κ×Value)}(r:KV kvs vs)(k:κ){y:V}{u:Value}(ry:RelV y u) :
  KV (kvs.map fun kv=>if kv.1=k then (kv.1,y) else kv) (vs.map fun kv=>if kv.1=k then (kv.1,u) else kv):=by
 unfold KV at r ⊢
 induction r with
 | nil=>exact .nil
 | @cons p q ps qs h t ih =>
  rw[List.map_cons,List.map_cons]
  refine .cons ?_ ih
  obtain⟨h1,h2⟩:=h
  by_cases e:p.1=k
  ·rw[if_pos e,if_pos (h1.symm.trans e)];exact⟨h1,ry⟩
  ·rw[if_neg e,if_neg (fun z=>e (h1.trans z))];exact⟨h1,h2⟩
theorem KV.put {kvs:List (κ×V)}{vs:List (κ×Value)}(r:KV kvs vs)(k:κ){y:V}{u:Value}(ry:RelV y u):KV (putK kvs k y) (stored vs k u):=by
 unfold putK stored
 rw[r.any k]
 by_cases e:(vs.any fun kv=>decide (kv.1=k))=true
 ·rw[if_pos e,if_pos e];exact r.repl k ry
 ·rw[if_neg e,if_neg e];exact Paired.snoc r ⟨rfl,ry⟩
theorem KV.drop {kvs:List (κ×V)}{vs:List (κ×Value)}(r:KV kvs vs)(k:κ):KV (dropK kvs k) (without vs k):=by
 unfold KV at r ⊢
 unfold dropK without
 induction r with
 | nil=>exact .nil
 | @cons p q ps qs h t ih =>
  obtain⟨h1,h2⟩:=h
  rw[List.filter_cons,List.filter_cons]
  by_cases e:p.1=k
  ·have a:¬ decide (p.1≠k)=true:=by simp [e]
   have b:¬ decide (q.1≠k)=true:=by simp [h1.symm.trans e]
   rw[if_neg a,if_neg b];exact ih
  ·have e':¬ q.1=k:=fun z=>e (h1.trans z)
   have a:decide (p.1≠k)=true:=by simp [e]
   have b:decide (q.1≠k)=true:=by simp [e']
   rw[if_pos a,if_pos b];exact .cons ⟨h1,h2⟩ ih
theorem KV.keys {kvs:List (κ×V)}{vs:List (κ×Value)}(r:KV kvs vs):kvs.map (·.1)=vs.map (·.1):=by
 unfold KV at r
 induction r with
 | nil=>rfl
 | cons h t ih=>rw[List.map_cons,List.map_cons,ih,h.1]
theorem KV.length {kvs:List (κ×V)}{vs:List (κ×Value)}(r:KV kvs vs):kvs.length=vs.length:=Paired.length r
end
abbrev KT (H:Hp):List (List Key×V)→List (List Key×Addr×Value)→Prop:=Paired fun p q=>p.1=q.1∧H q.2.1=some (.tup (p.1.map kV))∧RelV p.2 q.2.2
theorem KT.val {H:Hp}{kvs:List (List Key×V)}{xs:List (List Key×Addr×Value)}(r:KT H kvs xs)(k:List Key):RelO (valV kvs k) ((atKey xs k).map (·.2)):=by
 induction r with
 | nil=>exact True.intro
 | @cons p q ps qs h t ih =>
  obtain⟨h1,_,h2⟩:=h
  by_cases e:p.1=k
  ·have e':q.1=k:=h1.symm.trans e
   have b:atKey (q::qs) k=some q.2:=by simp [atKey,List.find?_cons,e']
   rw[valV_pos e,b];exact h2
  ·have e':¬ q.1=k:=fun z=>e (h1.trans z)
   have b:atKey (q::qs) k=atKey qs k:=by simp [atKey,List.find?_cons,e']
   rw[valV_neg e,b];exact ih
theorem KT.repl {H:Hp}{kvs:List (List Key×V)}{xs:List (List Key×Addr×Value)}(r:KT H kvs xs)(k:List Key){y:V}{u:Value}(ry:RelV y u) :
  KT H (kvs.map fun kv=>if kv.1=k then (kv.1,y) else kv) (xs.map (putAt k u)):=by
 induction r with
 | nil=>exact .nil
 | @cons p q ps qs h t ih =>
  rw[List.map_cons,List.map_cons]
  refine .cons ?_ ih
  obtain⟨h1,h2,h3⟩:=h
  unfold putAt
  by_cases e:p.1=k
  ·rw[if_pos e,if_pos (h1.symm.trans e)];exact⟨h1,h2,ry⟩
  ·rw[if_neg e,if_neg (fun z=>e (h1.trans z))];exact⟨h1,h2,h3⟩
theorem KT.put {H:Hp}{kvs:List (List Key×V)}{xs:List (List Key×Addr×Value)}(r:KT H kvs xs)(k:List Key){b:Addr}{y:V}{u:Value}(hb:H b=some (.tup (k.map kV)))(ry:RelV y u) :
  KT H (putK kvs k y) (storedH xs k b u):=by
 have e:(kvs.any fun kv=>decide (kv.1=k))=(atKey xs k).isSome:=by
  rw[valV_any,(r.val k).isSome_eq,Option.isSome_map]
 unfold putK storedH
 rw[e]
 by_cases q:(atKey xs k).isSome=true
 ·rw[if_pos q,if_pos q];exact r.repl k ry
 ·rw[if_neg q,if_neg q];exact Paired.snoc r ⟨rfl,hb,ry⟩
theorem KT.keeps {H H':Hp}{kvs:List (List Key×V)}{xs:List (List Key×Addr×Value)}(r:KT H kvs xs)(ht:∀ b ys,H b=some (.tup ys)→H' b=some (.tup ys)):KT H' kvs xs :=
 Paired.mapP r fun _ _ z=>⟨z.1,ht _ _ z.2.1,z.2.2⟩
section
variable {P:Program}{w:World}{H:Hp}{h:Heap}{a:Addr}
end
def DGet (H:Hp)(a:Addr)(y:V)(r:Option V):Prop :=
 (∃ kvs k,Rd H a (.dK kvs)∧y=kV k∧r=valV kvs k)∨∃ kvs k b,Rd H a (.dT kvs)∧y=.ref b∧H b=some (.tup (k.map kV))∧r=valV kvs k
def DPut (H:Hp)(a:Addr)(y v:V)(H':Hp):Prop :=
 (∃ kvs k,H a=some (.dK kvs)∧y=kV k∧kvs.length < sizeLine∧H'=upd H a (.dK (putK kvs k v))) ∨
 ∃ kvs k b,H a=some (.dT kvs)∧y=.ref b∧H b=some (.tup (k.map kV))∧kvs.length < sizeLine∧H'=upd H a (.dT (putK kvs k v))
theorem DGet.k {H:Hp}{a:Addr}{kvs:List (Key×V)}{k:Key}(e:H a=some (.dK kvs)):DGet H a (kV k) (valV kvs k):=.inl ⟨kvs,k,.inl e,rfl,rfl⟩
theorem DGet.t {H:Hp}{a b:Addr}{kvs:List (List Key×V)}{k:List Key}(e:H a=some (.dT kvs))(eb:H b=some (.tup (k.map kV))):DGet H a (.ref b) (valV kvs k):=.inr ⟨kvs,k,b,.inl e,rfl,eb,rfl⟩
theorem DPut.k {H:Hp}{a:Addr}{kvs:List (Key×V)}{k:Key}{v:V}(e:H a=some (.dK kvs))(hl:kvs.length < sizeLine):DPut H a (kV k) v (upd H a (.dK (putK kvs k v))):=.inl ⟨kvs,k,e,rfl,hl,rfl⟩
theorem DPut.t {H:Hp}{a b:Addr}{kvs:List (List Key×V)}{k:List Key}{v:V}(e:H a=some (.dT kvs))(eb:H b=some (.tup (k.map kV)))(hl:kvs.length < sizeLine) :
  DPut H a (.ref b) v (upd H a (.dT (putK kvs k v))):=.inr ⟨kvs,k,b,e,rfl,eb,hl,rfl⟩
section
variable {X:Cx}{pins:List (Addr×Obj)}{σ:St}{H:Hp}{s:Shared}{a:Addr}{y v:V}{u r:Value}{o:Option V}{A:Around}{E:Value→Shared→Prop}
theorem Inv.big (I:Inv X pins σ H s):sysModules < s.heap.objs.size:=by
 have h:mainGlobals < s.heap.objs.size:=(I.mod.glob.keeps I.bk).lt
 exact Nat.lt_trans (by decide) h
theorem d_write {h':Heap}{t':Nat}{ob:HO}(I:Inv X pins σ H s)(mu:Mut (H a))(hs:Heap.SameBut a s.heap h')(he:∃ q,h'.get? a=some q)(new:vY X.prog X.w (upd H a ob) h' a ob) :
  Inv X pins σ (upd H a ob) { s with heap:=h',toks:=t' } :=
 I.write (x:=a) (e:=a) mu (.inl rfl) (fun b q hb z=>(hs.2 b hb).trans z) he new
end
section
variable {X:Cx}{pins:List (Addr×Obj)}{σ:St}{H:Hp}{s:Shared}{a:Addr}{kvs:List (Key×V)}{k:Key}{u:Value}{A:Around}{E:Value→Shared→Prop}
end
section
variable {X:Cx}{o i e value:Expr}{pos pos' tpos:Pos}{td ty tv:TE}
end
section
variable {X:Cx}{pos:Pos}
end
section
variable {X:Cx}{pins:List (Addr×Obj)}{σ:St}{H:Hp}{s:Shared}{a:Addr}{y d:V}{u r:Value}{o:Option V}{A:Around}{E:Value→Shared→Prop}
end
section
variable {X:Cx}{o e f:Expr}{apos cpos:Pos}{td ty tx:TE}
end
section
variable {X:Cx}{pins:List (Addr×Obj)}{σ:St}{H:Hp}{s:Shared}{a:Addr}{kvs:List (Key×V)}{A:Around}{E:Value→Shared→Prop}
end
section
variable {X:Cx}{pins:List (Addr×Obj)}{σ:St}{H:Hp}{s:Shared}{a:Addr}{y:V}{u:Value}{A:Around}{E:Value→Shared→Prop}
end
end L2
namespace L2
open PySem PySem.Spec PyProof.Rows
section
variable {κ:Type} [DecidableEq κ]
end
end L2
namespace L2
open PySem PySem.Spec PyProof.Rows PySem.SeqAt
section
variable {X:Cx}
end
abbrev kI (i:Int):Key:=.inl i
abbrev k2 (p h:Int):List Key:=[.inl p,.inl h]
theorem DGet.p {H:Hp}{a b:Addr}{kvs:List (List Key×V)}{p h:Int}(e:H a=some (.dT kvs))(eb:H b=some (.tup [.int p,.int h])):DGet H a (.ref b) (valV kvs (k2 p h)):=DGet.t (k:=k2 p h) e eb
theorem DPut.p {H:Hp}{a b:Addr}{kvs:List (List Key×V)}{p h:Int}{v:V}(e:H a=some (.dT kvs))(eb:H b=some (.tup [.int p,.int h]))(hl:kvs.length < sizeLine):DPut H a (.ref b) v (upd H a (.dT (putK kvs (k2 p h) v))):=DPut.t (k:=k2 p h) e eb hl
theorem DGet.i {H:Hp}{a:Addr}{kvs:List (Key×V)}{i:Int}(e:H a=some (.dK kvs)):DGet H a (.int i) (valV kvs (kI i)):=DGet.k (k:=kI i) e
theorem DPut.i {H:Hp}{a:Addr}{kvs:List (Key×V)}{i:Int}{v:V}(e:H a=some (.dK kvs))(hl:kvs.length < sizeLine):DPut H a (.int i) v (upd H a (.dK (putK kvs (kI i) v))):=DPut.k (k:=kI i) e hl
end L2
namespace L2
open PySem PySem.Spec PyProof.Rows PySem.SeqAt
section
variable {X:Cx}
end
end L2
namespace L2
open PySem PySem.Spec PyProof.Rows PySem.SeqAt
end L2
namespace L2
open PySem PySem.Spec PyProof.Rows PySem.SeqAt
end L2
namespace L2
open PySem PySem.Spec PyProof.Rows
def Xat (h:Heap)(e:Addr)(own:List Addr)(cls:Value):Prop :=
 ∃ oe vs,h.get? e=some oe∧oe.cls=cls∧oe.dict=none∧oe.data=.fields vs ∧
  ((vs[1]?=some .none∧own=[e])∨∃ T oT ts,vs[1]?=some (.ref T)∧own=[e,T]∧T≠e∧h.get? T=some oT∧oT.data=.fields ts∧ts[3]?=some .none)
def Trd (h:Heap)(e T:Addr)(cls:Value):Prop :=
 ∃ oe vs oT ts,h.get? e=some oe∧oe.cls=cls∧oe.dict=none∧oe.data=.fields vs∧vs[1]?=some (.ref T)∧T≠e∧h.get? T=some oT∧oT.data=.fields ts∧ts[3]?=some .none
theorem Trd.xat {h:Heap}{e T:Addr}{cls:Value}(x:Trd h e T cls):Xat h e [e,T] cls:=by
 obtain⟨oe,vs,oT,ts,a,b,c,d,f,g,i,j,k⟩:=x
 exact⟨oe,vs,a,b,c,d,.inr ⟨T,oT,ts,f,rfl,g,i,j,k⟩⟩
structure Pas (fs own:List Addr)(h h':Heap):Prop where
 keep:∀ b o,h.get? b=some o→b∉fs→b∉own→h'.get? b=some o
 slot:∀ b o,h.get? b=some o→b∈fs→∃ sl,h'.get? b=some { o with slots:=sl }
section
variable {M:Model}{A:Around}{E:Value→Shared→Prop}{s:Shared}{env:Env}{outer:List Env}{L e:Addr}{base:Heap}
theorem dict_mapF (o:Obj)(f:Array Value→Array Value):(o.mapFields f).dict=o.dict:=by
 obtain⟨c,d,dt,sl⟩:=o
 cases dt <;> rfl
theorem zFg {oe:Obj}{vs:Array Value}{head:Value}{hadNext:Bool}{Q:Unit→Shared→Prop}
  (hfr:A.frames=some (env::outer))(hl:s.heap.FunFrames base (env::outer))(hf:env.frame=some L)(he:s.heap.get? e=some oe)(hd:oe.data=.fields vs)(hsz:1 < vs.size)
  (k:∀ h' T,Pas (frs (env::outer)) [e] s.heap h'→s.heap.get? T=none→Trd h' e T oe.cls→Q () { s with heap:=h' })(hdi:oe.dict=none) :
  wpAny M A (do
   let fr ← frameOf env
   let pl ← entryPlaceOf L hadNext
   let tb ← EntryCells.newEntry head fr .none (rawInt L) .none pl
   setField (.ref e) 1 tb) (fun _ s'=>wpAny M A (setFlight (.ref e) none) Q E s') E s:=by
 have nf:e∉frs (env::outer):=fun hm=>by
  obtain⟨_,o,ho,hn⟩:=hl.mem hm
  rw[he] at ho
  cases ho
  exact hn vs hd
 refine wpAny_bind (wpAny_frameOf_fun hfr hl hf fun h1 x1=>?_)
 refine wpAny_bind (wpAny_entryPlaceOf fun pl hpl=>?_)
 unfold EntryCells.newEntry newFields
 refine wpAny_bind (wpAny_newObj_type ?_ (hpl.sizeOk5 _ _ _ _ _))
 have e1:h1.get? e=some oe:=(x1.2.1 e nf).trans he
 generalize hto:({ cls:=.type "traceback",dict:=none,data:=.fields ([head,.ref L,.none,rawInt L,.none] ++ (if pl.isEmpty then List.replicate 6 Value.none else pl)).toArray }:Obj)=tob
 obtain⟨ts,hts,ht3⟩:∃ ts:Array Value,tob.data=.fields ts∧3 < ts.size:=⟨_,by rw[← hto],by simp only [List.size_toArray,List.length_append,List.length_cons,List.length_nil];omega⟩
 have e2:(h1.push tob).get? e=some oe:=Heap.get?_push_of_some _ e1
 have ne:h1.objs.size≠e:=fun z=>Nat.lt_irrefl _ (z▸Heap.lt_size e1)
 refine wpAny_setField e2 hd hsz ?_
 have d3:=Obj.data_mapFields hd (·.setIfInBounds 1 (Value.ref h1.objs.size))
 have e3:=Heap.get?_update_self (Obj.mapFields (·.setIfInBounds 1 (Value.ref h1.objs.size))) e2 (Obj.isFreed_of_fields d3)
 have tfr:tob.isFreed=false:=Obj.isFreed_of_fields hts
 have t3:((h1.push tob).update e (Obj.mapFields (·.setIfInBounds 1 (Value.ref h1.objs.size)))).get? h1.objs.size=some tob :=
  (Heap.get?_update_other (h1.push tob) _ (Ne.symm ne)).trans (Heap.get?_push_size h1 tfr)
 unfold setFlight
 refine wpAny_bind (wpAny_field e3 d3 (x:=.ref h1.objs.size) (by simp [hsz]) ?_)
 rw[if_pos (show (Value.ref h1.objs.size != Value.none)=true from by simp)]
 refine wpAny_setField t3 hts ht3 ?_
 have d4:=Obj.data_mapFields hts (·.setIfInBounds 3 ((none:Option Addr).elim Value.none fun f=>rawInt f))
 have t4:=Heap.get?_update_self (Obj.mapFields (·.setIfInBounds 3 ((none:Option Addr).elim Value.none fun f=>rawInt f))) t3 (Obj.isFreed_of_fields d4)
 have old:∀ b o,b≠e→h1.get? b=some o→(((h1.push tob).update e (Obj.mapFields (·.setIfInBounds 1 (Value.ref h1.objs.size)))).update h1.objs.size (Obj.mapFields (·.setIfInBounds 3 ((none:Option Addr).elim Value.none fun f=>rawInt f)))).get? b=some o:=fun b o hb q=>by
  have hT:h1.objs.size≠b:=fun z=>Nat.lt_irrefl _ (z▸Heap.lt_size q)
  rw[Heap.get?_update_other _ _ hT,Heap.get?_update_other _ _ (Ne.symm hb)]
  exact Heap.get?_push_of_some _ q
 refine k _ h1.objs.size ⟨fun b o q nb no=>old b o (fun z=>no (by simp [z])) ((x1.2.1 b nb).trans q),fun b o q hb=>?_⟩ (Heap.get?_none_of_le (by rw[x1.1];exact Nat.le_refl _)) ?_
 ·obtain⟨sl,q1⟩:=x1.2.2 b o q
  exact⟨sl,old b _ (fun z=>nf (z▸hb)) q1⟩
 ·refine⟨_,_,_,_,(Heap.get?_update_other _ _ ne).trans e3,Obj.cls_mapFields _ _,(dict_mapF _ _).trans hdi,d3,by simp [hsz],ne,t4,d4,by simp [ht3]⟩
theorem noteland {own:List Addr}{cls:Value}{Q:Unit→Shared→Prop}(hfr:A.frames=some (env::outer))(hl:s.heap.FunFrames base (env::outer))(hf:env.frame=some L)(x:Xat s.heap e own cls)
  (k:∀ h' T,Pas (frs (env::outer)) own s.heap h'→(T∈own∨s.heap.get? T=none)→Trd h' e T cls→Q () { s with heap:=h' }) :
  wpAny M A (noteFrame (.ref e) env) (fun _ s2=>wpAny M A (setFlight (.ref e) none) Q E s2) E s:=by
 obtain⟨oe,vs,he,rfl,hdi,hd,⟨h1,rfl⟩ | ⟨T,oT,ts,h1,rfl,hTe,hT,hdT,h3⟩⟩:=x
 ·unfold noteFrame
  simp only [hf]
  refine wpAny_bind (wpAny_field he hd h1 ?_)
  rw[if_neg (by decide)]
  exact zFg hfr hl hf he hd (Array.getElem?_eq_some_iff.mp h1).1 (fun h' T p n t=>k h' T p (.inr n) t) hdi
 ·unfold noteFrame
  simp only [hf]
  refine wpAny_bind (wpAny_field he hd h1 ?_)
  rw[if_pos (show (Value.ref T != Value.none)=true from by simp)]
  refine wpAny_bind (wpAny_field hT hdT h3 ?_)
  rw[if_neg (show ¬ ((Value.none == rawInt L)=true) from by simp [rawInt])]
  refine wpAny_bind (wpAny_setField hT hdT (Array.getElem?_eq_some_iff.mp h3).1 ?_)
  have oth:∀ b,b≠T→(s.heap.update T (Obj.mapFields (·.setIfInBounds 3 Value.none))).get? b=s.heap.get? b:=fun b hb=>Heap.get?_update_other _ _ (Ne.symm hb)
  have dT:=Obj.data_mapFields hdT (·.setIfInBounds 3 Value.none)
  have gT:=Heap.get?_update_self (Obj.mapFields (·.setIfInBounds 3 Value.none)) hT (Obj.isFreed_of_fields dT)
  have hnT:∀ b o,s.heap.get? b=some o→(∀ ws,o.data≠.fields ws)→b≠T:=fun b o hb hn z=>by
   rw[z,hT] at hb
   cases hb
   exact hn ts hdT
  refine zFg (hl.of_keeps fun b o hb hn=>⟨o,(oth b (hnT b o hb hn)).trans hb,rfl⟩) hf ((oth e (Ne.symm hTe)).trans he) hd (Array.getElem?_eq_some_iff.mp h1).1 (fun h' T' p n t=>k h' T' ⟨fun b o q nb no=>?_,fun b o q hb=>?_⟩ (.inr ?_) t) hdi (hfr:=hfr)
  ·have hb:b≠e∧b≠T:=⟨fun z=>no (by simp [z]),fun z=>no (by simp [z])⟩
   exact p.keep b o ((oth b hb.2).trans q) nb (by simpa using hb.1)
  ·obtain⟨_,o',ho',hn'⟩:=hl.mem hb
   rw[q] at ho'
   cases ho'
   exact p.slot b o ((oth b (hnT b o q hn')).trans q) hb
  ·by_cases z:T'=T
   ·rw[z,gT] at n;cases n
   ·rw[oth T' z] at n;exact n
theorem land_again {T:Addr}{cls:Value}{Q:Unit→Shared→Prop}(x:Trd s.heap e T cls)(k:∀ h',(∀ b o,b≠T→s.heap.get? b=some o→h'.get? b=some o)→Trd h' e T cls→Q () { s with heap:=h' }) :
  wpAny M A (setFlight (.ref e) none) Q E s:=by
 obtain⟨oe,vs,oT,ts,he,rfl,hdi,hd,h1,hTe,hT,hdT,h3⟩:=x
 unfold setFlight
 refine wpAny_bind (wpAny_field he hd h1 ?_)
 rw[if_pos (show (Value.ref T != Value.none)=true from by simp)]
 have l3:3 < ts.size:=(Array.getElem?_eq_some_iff.mp h3).1
 refine wpAny_setField hT hdT l3 (k _ (fun b o hb q=>(Heap.get?_update_other _ _ (Ne.symm hb)).trans q) ?_)
 have dT:=Obj.data_mapFields hdT (·.setIfInBounds 3 ((none:Option Addr).elim Value.none fun f=>rawInt f))
 exact⟨oe,vs,_,_,(Heap.get?_update_other _ _ hTe).trans he,rfl,hdi,hd,h1,hTe,Heap.get?_update_self _ hT (Obj.isFreed_of_fields dT),dT,by simp [l3]⟩
end
theorem vY.ex {P:Program}{w:World}{H:Hp}{h:Heap}{a:Addr}{o:HO}(x:vY P w H h a o):∃ ob,h.get? a=some ob:=by
 cases o with
 | lst xs=>obtain⟨_,_,_,_,e⟩:=x;exact⟨_,e⟩
 | tup xs=>obtain⟨_,_,_,p⟩:=x;obtain⟨ob,e,_⟩:=p;exact⟨ob,e⟩
 | dK kvs=>obtain⟨_,_,_,_,o,_,_,e,_⟩:=x;exact⟨_,e⟩
 | dT kvs=>obtain⟨_,_,_,_,o,_,_,e,_⟩:=x;exact⟨_,e⟩
 | set S n=>obtain⟨o,_,_,_,e,_⟩:=x;exact⟨_,e⟩
 | ins C dx fs=>obtain⟨_,_,_,e,_⟩:=x;exact⟨_,e⟩
 | own y=>obtain⟨_,e⟩:=x;exact⟨_,e⟩
 | xd fs=>obtain⟨_,⟨_,_,_,e,_⟩,_⟩:=x;exact⟨_,e⟩
 | rng lo hi=>obtain⟨_,_,_,e⟩:=x;exact⟨_,e⟩
 | frz ob u=>obtain⟨e,_⟩:=x;exact⟨_,e⟩
 | tbl ps=>exact⟨_,(show h.get? a=some _ from x)⟩
 | met f y=>exact⟨_,(show h.get? a=some _ from x)⟩
 | ext φ=>obtain⟨_,e,_⟩:=x;exact e
theorem HOk.free {P:Program}{w:World}{H:Hp}{h:Heap}{a:Addr}(x:HOk P w H h)(n:h.get? a=none):H a=none:=by
 cases q:H a with
 | none=>rfl
 | some o =>
  obtain⟨ob,e⟩:=(x a o q).ex
  rw[n] at e
  cases e
structure zCz (X:Cx)(pins:List (Addr×Obj))(H:Hp)(b:Addr):Prop where
 new:X.s₀.heap.get? b=none
 un:H b=none
 loc:b≠X.env.locals
 cel:∀ x c,X.env.cells.lookup x=some c→c≠b
 pin:∀ p∈X.pn ++ pins,p.1≠b
section
variable {X:Cx}{pins:List (Addr×Obj)}{σ:St}{H:Hp}{s:Shared}{h':Heap}{own:List Addr}
theorem Inv.pas (I:Inv X pins σ H s)(p:Pas (frs X.stack) own s.heap h')(ho:∀ b∈own,zCz X pins H b):Inv X pins σ H { s with heap:=h' }:=by
 have neL:∀ b o,X.s₀.heap.get? b=some o→b≠X.env.locals:=fun b o e=>Nat.ne_of_lt (Nat.lt_of_lt_of_le (Heap.lt_size e) I.ok.above)
 have neO:∀ b o,X.s₀.heap.get? b=some o→b∉own:=fun b o e z=>by rw[(ho b z).new] at e;cases e
 have any:∀ b o,s.heap.get? b=some o→b∉own→∃ sl,h'.get? b=some { o with slots:=sl }:=fun b o e n=>by
  by_cases z:b∈frs X.stack
  ·exact p.slot b o e z
  ·exact⟨o.slots,p.keep b o e z n⟩
 have cellK:∀ x c,X.env.cells.lookup x=some c→∀ v,s.heap.IsCell c v→h'.IsCell c v:=fun x c e v ⟨o,q,hd⟩=>by
  obtain⟨sl,q'⟩:=any c o q fun z=>(ho c z).cel x c e rfl
  exact⟨_,q',hd⟩
 refine⟨I.ok,I.os,I.bare,⟨fun b o e n hb hx=>?_,fun b o e n hb hx=>?_,I.base.free,fun b o e hx=>?_,I.base.tups,I.base.frzs,I.base.tbls⟩,?_,fun x c e=>?_,I.free,I.freeC,fun q hq=>?_,fun a o e=>?_,I.len⟩
 ·refine p.keep b o (I.base.keep b o e n hb hx) (fun z=>?_) (neO b o e)
  rcases List.mem_cons.mp (I.zFk b z) with y | y
  ·exact neL b o e y
  ·exact hb y
 ·obtain⟨sl,q⟩:=I.base.slot b o e n hb hx
  obtain⟨sl',q'⟩:=any b _ q (neO b o e)
  exact⟨sl',q'⟩
 ·obtain⟨o',q⟩:=I.base.there b o e hx
  obtain⟨sl,q'⟩:=any b o' q (neO b o e)
  exact⟨_,q'⟩
 ·obtain⟨m,hn,hl⟩:=I.loc
  obtain⟨o,es,ep,q,r⟩:=id hn
  obtain⟨sl,q'⟩:=any _ o q fun z=>(ho _ z).loc rfl
  refine⟨m,⟨_,es,ep,q',r⟩,fun i x v e1 e2 e3=>?_⟩
  obtain⟨u,ru,lu⟩:=hl i x v e1 e2 e3
  refine⟨u,ru,?_⟩
  rcases lu with l | ⟨kk,c,e,z⟩
  ·exact .inl l
  ·exact .inr ⟨kk,c,e,cellK x c e _ z⟩
 ·obtain⟨v,z⟩:=I.cell x c e
  exact⟨v,cellK x c e v z⟩
 ·obtain⟨e,n,ne,nf,d⟩:=I.pin q hq
  refine⟨p.keep _ _ e (fun z=>?_) (fun z=>(ho _ z).pin q hq rfl),n,ne,nf,d⟩
  rcases List.mem_cons.mp (I.zFk _ z) with y | y
  ·exact ne y
  ·exact nf y
 ·have tr:∀ b u,H b=some u→b∉frs X.stack∧b∉own:=fun b u q=>⟨fun z=>(by rw[I.stkFree b z] at q;cases q),fun z=>(by rw[(ho b z).un] at q;cases q)⟩
  refine (I.hok a o e).stay (fun b u hb q=>?_) (fun _ q=>q) fun _ _ q=>q
  rcases hb with z | z
  ·rw[z] at q ⊢;exact p.keep _ _ q (tr a o e).1 (tr a o e).2
  ·exact p.keep _ _ q (tr b _ z).1 (tr b _ z).2
theorem zCz.of (I:Inv X pins σ H s){H':Hp}{b:Addr}(hex:X.ex=[])(n:s.heap.get? b=none)(u:H' b=none):zCz X pins H' b:=by
 refine⟨?_,u,fun z=>?_,fun x c e z=>?_,fun p hp z=>?_⟩
 ·cases q:X.s₀.heap.get? b with
  | none=>rfl
  | some o =>
   obtain⟨o',e⟩:=I.base.there b o q (by rw[hex];exact fun z=>(nomatch z))
   rw[n] at e
   cases e
 ·obtain⟨m,⟨o,_,_,q,_⟩,_⟩:=I.loc
  rw[← z,n] at q
  cases q
 ·obtain⟨v,o,q,_⟩:=I.cell x c e
  rw[z,n] at q
  cases q
 ·have q:=(I.pin p hp).1
  rw[z,n] at q
  cases q
theorem Inv.track {u:HO}{a:Addr}(I:Inv X pins σ H s)(o:zCz X pins H a)(new:vY X.prog X.w (upd H a u) s.heap a u):Inv X pins σ (upd H a u) s:=by
 have ne:∀ b v,H b=some v→b≠a:=fun b v e=>zJ e o.un
 refine⟨I.ok,I.os,I.bare,⟨I.base.keep,I.base.slot,fun b ob e n hx=>?_,I.base.there,fun b xs q=>?_,fun b ob v q=>?_,fun b ps q=>?_⟩,I.loc,I.cell,?_,fun x c e=>?_,fun p hp=>?_,fun b v e=>?_,I.len⟩
 ·rw[zK (fun z=>by rw[z,o.new] at e;cases e)];exact I.base.free b ob e n hx
 ·have q':=I.base.tups b xs q
  rw[zK (ne _ _ q')];exact q'
 ·have q':=I.base.frzs b ob v q
  rw[zK (ne _ _ q')];exact q'
 ·obtain⟨more,q'⟩:=I.base.tbls b ps q
  exact⟨more,by rw[zK (ne _ _ q')];exact q'⟩
 ·rw[zK (Ne.symm o.loc)];exact I.free
 ·rw[zK (o.cel x c e)];exact I.freeC x c e
 ·obtain⟨e,n,r⟩:=I.pin p hp
  exact⟨e,by rw[zK (o.pin p hp)];exact n,r⟩
 ·by_cases hb:b=a
  ·subst hb;rw[zH] at e;cases e;exact new
  ·rw[zK hb] at e
   exact (I.hok b v e).stay (fun _ _ _ q=>q) (fun c q=>by rw[zK (ne _ _ q)];exact q) fun c xs q=>by rw[zK (ne _ _ q)];exact q
end
def CX1 (P:Program)(w:World):CXT:=fun outer H s E e s' =>
 ∃ ea T cls H',e=.ref ea∧s'.os=s.os∧AllBare s'.gens∧Un (frs outer) [] H H' s.heap s'.heap∧HOk P w H' s'.heap∧Trd s'.heap ea T cls∧s.heap.get? ea=none∧s.heap.get? T=none∧H' ea=none∧H' T=none∧E cls none H'
theorem passE0 {P:Program}{w:World}{X:Cx}:Passes (CX1 P w) X E0:=fun _ _ _ _ _ _ _ h=>by
 obtain⟨_,_,_,_,_,_,_,_,_,_,_,_,_,_,z⟩:=h
 exact z.elim
theorem zFo.of0 {P P':Program}{w w':World}{K:PySem.W.Frag}{mg:Str→Option Value}{base:Heap}{k:Nat}{f:Addr}{fd:FuncData}{ps:List Str}{sp:Sp}(F:zFo P w K mg base CX0 k f fd ps sp):zFo P w K mg base (CX1 P' w') k f fd ps sp :=
 ⟨F.len,fun A outer s H args us vs Q E hr he hb hv hs=>codeAny_mono (F.run A outer s H args us vs Q E hr he hb hv hs) fun r s' h=>by
  cases r with
  | ok fl=>cases fl <;> exact h
  | error e=>exact False.elim h⟩
section
variable {X:Cx}{pins:List (Addr×Obj)}{σ:St}{H:Hp}{s s':Shared}{E:XK}{e:Value}
def XPo (X:Cx)(pins:List (Addr×Obj))(σ:St)(E:XK)(e:Value)(s':Shared):Prop :=
 ∃ ea T cls H',e=.ref ea∧Inv X pins σ H' s'∧Trd s'.heap ea T cls∧zCz X pins H' ea∧zCz X pins H' T∧E cls none H'
theorem Inv.come (I:Inv X pins σ H s)(hex:X.ex=[])(h:CX1 X.prog X.w X.stack H s E e s'):XPo X pins σ E e s':=by
 obtain⟨ea,T,cls,H',rfl,os,bare,un,hok,tr,n1,n2,u1,u2,q⟩:=h
 exact⟨ea,T,cls,H',rfl,I.call' (ch:=[]) os un hok bare (fun b z=>(nomatch z)),tr,zCz.of I hex n1 u1,zCz.of I hex n2 u2,q⟩
end
section
variable {P:Program}{w:World}{K:PySem.W.Frag}{mg:Str→Option Value}{base:Heap}{N:List Str}{qual:Str}{scope:Scope}{f:Addr}{cd:Value}{A:Around}{outer:List Env}{s0:Shared}{H0:Hp}{E:XK}
 {pins:List (Addr×Obj)}{σ:St}{H:Hp}{s:Shared}
theorem xe_out {ea:Addr}{own:List Addr}{cls:Value}(I:Inv (cxOf (CX1 P w) P w K mg base N qual scope f cd A outer s0 H0 E) pins σ H s)(x:Xat s.heap ea own cls)
  (ho:∀ b∈own,zCz (cxOf (CX1 P w) P w K mg base N qual scope f cd A outer s0 H0 E) pins H b)(hm:ea∈own)(q:E cls none H):(cxOf (CX1 P w) P w K mg base N qual scope f cd A outer s0 H0 E).xe (.ref ea) s:=by
 show wpAny (model P w) _ (leaving _ (.ref ea)) _ _ s
 unfold leaving
 refine wpAny_bind (noteland (L:=s0.heap.objs.size) I.ok.frames I.stack rfl x fun h' T p hT tr=>?_)
 have I':=I.pas p ho
 have nT:(cxOf (CX1 P w) P w K mg base N qual scope f cd A outer s0 H0 E).s₀.heap.get? T=none∧H T=none:=by
  rcases hT with z | z
  ·exact⟨(ho T z).new,(ho T z).un⟩
  ·have:=zCz.of (H':=H) I rfl z (I.hok.free z)
   exact⟨this.new,this.un⟩
 exact⟨ea,T,cls,H,rfl,I'.os,I'.bare,I'.base,I'.hok,tr,(ho ea hm).new,nT.1,(ho ea hm).un,nT.2,q⟩
theorem zCs {E':XK}(h:∀ cls H,E' cls none H→E cls none H):Passes (CX1 P w) (cxOf (CX1 P w) P w K mg base N qual scope f cd A outer s0 H0 E) E':=by
 intro pins σ H s e s' I c
 obtain⟨ea,T,cls,H',rfl,I',tr,o1,o2,q⟩:=I.come rfl c
 refine xe_out I' tr.xat (fun b hb=>?_) (by simp) (h _ _ q)
 rcases List.mem_cons.mp hb with z | z
 ·rw[z];exact o1
 ·rw[List.mem_singleton.mp z];exact o2
end
end L2
namespace L2
open PySem PySem.Spec PyProof.Rows
theorem own_cls {K:PySem.W.Frag}{h:Heap}{mg:Str→Option Value}{x:Str}{C:Addr}{bmB:List Value}{newId:String}(X:K.In h)(b:mg x=some (.ref C))(q:PySem.W.excIn K C bmB newId=true):OwnCls x C bmB newId mg h:=by
 refine⟨b,?_⟩
 unfold PySem.W.excIn at q
 split at q
 ·rename_i dd cd sl ho
  split at q
  ·rename_i C' bm k0 k1 k2 k3 n k5 hm hs
   simp only [Bool.and_eq_true,beq_iff_eq,Bool.not_eq_true'] at q
   obtain⟨⟨⟨⟨⟨rfl,rfl⟩,hdel⟩,ht⟩,hok⟩,hni⟩:=q
   cases cd
   dsimp only at hm hdel hok hni
   subst hm hdel
   obtain⟨l⟩:=sl
   have hs':l=[k0,k1,k2,k3,some (.builtin n),k5]:=hs
   subst hs'
   exact⟨_,_,_,_,_,_,_,_,_,_,_,_,_,_,_,_,_,X _ _ ho,.of_isNs (PySem.W.isNs_of_in X hok),PySem.W.nsMap_none_of_in X hok hni,PySem.W.tail_of_in X ht⟩
  ·cases q
 ·cases q
def RaiseOk (X:Cx)(E:XK):Prop:=∀ (pins:List (Addr×Obj))(σ:St)(H:Hp)(s:Shared)(ea:Addr)(cls:Value),Inv X pins σ H s→Xat s.heap ea [ea] cls→zCz X pins H ea→E cls none H→X.xe (.ref ea) s
def tRaise (C:Addr)(E:XK)(t:TA):TS:=fun _ σ H=>t σ H fun vs H1=>vs.length≤sizeLine∧E (.ref C) none H1
section
variable {X:Cx}{e:Expr}{es:List Expr}{t:TA}{x:Str}{np cpos pos:Pos}{C:Addr}{E:XK}
theorem ps_raise {bm:List Value}{newId B initId:String}(hc:X.calm=true)(hex:X.ex=[])(hx:RaiseOk X E)(hm:X.mg x=some (.ref C))(q:PySem.W.excIn X.K C bm newId=true)(FB:ExcBaseFacts B newId initId bm)(hg:Gl X x)(ha:PA X (e::es) t)
  (hdb:(x == ("__debug__":Str))=false:=by decide)(he:starEach (e::es) X.env=(false,eval e X.env)::starEach es X.env:=by rfl)(hpl:(backTo cpos (starEach es X.env)).any (·.1)=false:=by rfl) :
  PS X (.Raise (some (.Call (.Name x np) (e::es) [] cpos)) none pos) (tRaise C E t):=by
 intro pins s σ H D I h
 obtain⟨tl,Nn,nm,qq,bs,hdct,sn,sub,ab,col,dd,k0,k1,k2,k3,k5,mN,hC,hN,hni,T⟩:=(own_cls I.mod.kin hm q).obj
 refine wpAny_Raise_call_subT (C:=C) (nm:=nm) (q:=qq) (N:=Nn) (bs:=bs) (bm:=tl) (hdct:=hdct) (sn:=sn) (sub:=sub) (ab:=ab) (col:=col) (dd:=dd) (k0:=k0) (k1:=k1) (k2:=k2) (k3:=k3) (k5:=k5) (mN:=mN)
  FB (T.hasType FB.hasBase) (I.ok.hd hc) (by rw[he];show (false || (backTo cpos (starEach es X.env)).any (·.1))=false;rw[hpl];rfl) hni (ld_glob I hg hm ⟨rfl,?_⟩ hdb)
 have hA:=ha cpos pins s σ H _ I h
 rw[he] at hA ⊢
 refine Calls.evalArgs_plain (thn hA fun us s2 ⟨vs,H2,I2,rv,hz,qE⟩=>⟨rfl,(by rw[← rv.length];exact hz),I2.bk _ _ hC,hN.keeps I2.bk,T.keeps I2.bk,fun h' ea me=>?_⟩)
 obtain⟨tt,ge,_,_⟩:=me.there
 exact hx pins σ H2 _ ea (.ref C) (I2.kept (t':=s2.toks) me.keeps) ⟨_,_,ge,rfl,rfl,rfl,.inl ⟨rfl,rfl⟩⟩ (zCz.of I2 hex me.new (I2.hok.free me.new)) qE
end
section
variable {P:Program}{w:World}{K:PySem.W.Frag}{mg:Str→Option Value}{base:Heap}{N:List Str}{qual:Str}{scope:Scope}{f:Addr}{cd:Value}{A:Around}{outer:List Env}{s0:Shared}{H0:Hp}{E:XK}
theorem raise_ok:RaiseOk (cxOf (CX1 P w) P w K mg base N qual scope f cd A outer s0 H0 E) E:=fun pins σ H s ea cls I x o q =>
 xe_out I x (fun b hb=>by rw[List.mem_singleton.mp hb];exact o) (by simp) q
theorem zFq:PassesOwn (model P w) (cxOf (CX1 P w) P w K mg base N qual scope f cd A outer s0 H0 E).A (cxOf (CX1 P w) P w K mg base N qual scope f cd A outer s0 H0 E).env (cxOf (CX1 P w) P w K mg base N qual scope f cd A outer s0 H0 E).xe :=
 PassesOwn.leaving (Q₁:=fun e s''=>CX1 P w outer H0 s0 E e s'') (E₁:=fun e' s''=>CX1 P w outer H0 s0 E e' s'')
end
structure Dx (P:Program)(w:World)(K:PySem.W.Frag)(mg:Str→Option Value)(base:Heap)(k:Nat)(x:Str)(ps:List Str)(sp:Sp):Prop where
 ex:∃ (f:Addr)(fd:FuncData),zFo P w K mg base (CX1 P w) k f fd ps sp∧Binds K fd ps []∧PySem.W.keepIn K (.ref f)=true∧mg x=some (.ref f)
theorem Dx.mono {P:Program}{w:World}{K:PySem.W.Frag}{mg:Str→Option Value}{base:Heap}{j k:Nat}{x:Str}{ps:List Str}{sp:Sp}(D:Dx P w K mg base j x ps sp)(h:j≤k):Dx P w K mg base k x ps sp :=
 let ⟨f,fd,F,r⟩:=D.ex;⟨f,fd,F.mono h,r⟩
theorem Df.x {P:Program}{w:World}{K:PySem.W.Frag}{mg:Str→Option Value}{base:Heap}{k:Nat}{x:Str}{ps:List Str}{sp:Sp}(D:Df P w K mg base k x ps sp):Dx P w K mg base k x ps sp :=
 let ⟨f,fd,F,r⟩:=D.ex;⟨f,fd,F.of0,r⟩
theorem Dn.okx {P:Program}{w:World}{K:PySem.W.Frag}{mg:Str→Option Value}{base:Heap}{x:Str}{st:Stmt}{N ps:List Str}{k:Nat}{sp:Sp}(D:Dn K mg x st ps)(S:zN N ps (zA st))(len:∀ vs H Q E,sp vs H Q E→vs.length=ps.length)
  (hbody:∀ (f:Addr)(cdv:Value)(A:Around)(outer:List Env)(s:Shared)(H:Hp)(vs:List V)(Q:VK)(E:XK),zBu k (A.deeper (envOfC x (zA st) s.heap.objs.size f cdv))→sp vs H Q E →
   ∃ t,PSs (cxOf (CX1 P w) P w K mg base N x (zA st) f cdv A outer s H E) (zC st) t∧t { nx:=fun _ H'=>Q .non H',rt:=Q } (start N vs) H):Dx P w K mg base (k+1) x ps sp:=by
 obtain⟨f,fd,F,b,m⟩:=D.ex
 obtain⟨oc,od,kV,doc,pm,an,cdv,ct,osl,rfl,lk,hcd⟩:=F.ex
 exact⟨f,_,fn_of lk hcd S len fun A outer s H vs Q E hr h=>hbody f cdv A outer s H vs Q E hr h,b,F.kp,m⟩
section
variable {X:Cx}{k:Nat}{x:Str}{ps:List Str}{sp:Sp}{e:Expr}{es:List Expr}{t:TA}{p pos:Pos}{E:XK}
theorem pe_dx (hx:Passes (CX1 X.prog X.w) X E)(D:Dx X.prog X.w X.K X.mg X.base k x ps sp)(hr:zBu k X.A)(hg:Gl X x)(ha:PA X (e::es) t)(hdb:(x == ("__debug__":Str))=false:=by decide)
  (he:starEach (e::es) X.env=(false,eval e X.env)::starEach es X.env:=by rfl)(hpl:(backTo pos (starEach es X.env)).any (·.1)=false:=by rfl) :
  PE X (.Call (.Name x p) (e::es) [] pos) (tCall sp [] E t):=by
 obtain⟨f,fd,F,hb,hk,hm⟩:=D.ex
 exact pe_call F hr hg hm hk hb .nil hx ha hdb he hpl
theorem pe_dx0 (D:Dx X.prog X.w X.K X.mg X.base k x ps sp)(hr:zBu k X.A)(hg:Gl X x)(ha:PA X (e::es) t)(hdb:(x == ("__debug__":Str))=false:=by decide)
  (he:starEach (e::es) X.env=(false,eval e X.env)::starEach es X.env:=by rfl)(hpl:(backTo pos (starEach es X.env)).any (·.1)=false:=by rfl) :
  PE X (.Call (.Name x p) (e::es) [] pos) (tCall sp [] E0 t):=pe_dx passE0 D hr hg ha hdb he hpl
end
abbrev TEX:=St→Hp→VK→XK→Prop
abbrev TSX:=Ends→(St→XK)→St→Hp→Prop
def PEX (X:Cx)(e:Expr)(t:TEX):Prop :=
 ∀ (pins:List (Addr×Obj))(s:Shared)(σ:St)(H:Hp)(Q:VK)(E:XK),Inv X pins σ H s→t σ H Q E→wpAny (model X.prog X.w) X.A (eval e X.env) (EP X pins σ Q) (XPo X pins σ E) s
def XPs (X:Cx)(pins:List (Addr×Obj))(E:St→XK)(e:Value)(s':Shared):Prop:=∃ σ',XPo X pins σ' (E σ') e s'
def PSX (X:Cx)(st:Stmt)(t:TSX):Prop :=
 ∀ (pins:List (Addr×Obj))(s:Shared)(σ:St)(H:Hp)(D:Ends)(E:St→XK),Inv X pins σ H s→t D E σ H→wpAny (model X.prog X.w) X.A (exec st X.env) (SP X pins D) (XPs X pins E) s
def PSXs (X:Cx)(st:List Stmt)(t:TSX):Prop :=
 ∀ (pins:List (Addr×Obj))(s:Shared)(σ:St)(H:Hp)(D:Ends)(E:St→XK),Inv X pins σ H s→t D E σ H→wpAny (model X.prog X.w) X.A (execs st X.env) (SP X pins D) (XPs X pins E) s
section
variable {X:Cx}{st:Stmt}{rest:List Stmt}{e:Expr}{pos:Pos}
theorem psxs_one {t:TSX}(h1:PSX X st t):PSXs X [st] t:=by
 intro pins s σ H D E I h
 refine wpAny_execs_cons (thn (h1 pins s σ H D E I h) fun f s1 q=>?_)
 cases f with
 | next=>exact wpAny_execs_nil q
 | ret v=>exact q
 | brk=>exact q
 | cont=>exact q
theorem psx_expr {te:TEX}(he:PEX X e te)(hs:swapsWith e none pos.line X.env=pure false:=by rfl):PSX X (.Expr e pos) (fun D E σ H=>te σ H (fun _ H1=>D.nx σ H1) (E σ)):=by
 intro pins s σ H D E I h
 exact wpAny_Expr_any (wpAny_mono (he pins s σ H _ _ I h) (fun v s1 ⟨x,H1,I1,r1,q1⟩=>⟨σ,H1,I1,q1⟩) fun _ _ z=>⟨σ,z⟩) I.quiet hs
theorem pex_dx {k:Nat}{x:Str}{ps:List Str}{sp:Sp}{es:List Expr}{t:TA}{p:Pos}(hex:X.ex=[])(D:Dx X.prog X.w X.K X.mg X.base k x ps sp)(hr:zBu k X.A)(hg:Gl X x)(ha:PA X.nox (e::es) t)(hdb:(x == ("__debug__":Str))=false:=by decide)
  (he:starEach (e::es) X.env=(false,eval e X.env)::starEach es X.env:=by rfl)(hpl:(backTo pos (starEach es X.env)).any (·.1)=false:=by rfl) :
  PEX X (.Call (.Name x p) (e::es) [] pos) (fun σ H Q E=>t σ H fun vs H1=>sp vs H1 Q E):=by
 intro pins s σ H Q E I h
 obtain⟨f,fd,F,hb,hk,hm⟩:=D.ex
 refine wpAny_Call_Name_kw (ld_glob I hg hm ?_ hdb)
 refine PySem.W.callWith_K (h₀:=X.base) I.ok.mod.kin hk (wpAny_mono (ha pos pins s σ H _ (I.wish _) h) (fun us s1 ⟨vs,H1,I1,r,q⟩=>⟨I1.kIn,?_⟩) fun _ _ z=>False.elim z) he hpl
 have I1:=I1.zAa
 have hl:us.length=ps.length:=by rw[← r.length];exact F.len _ _ _ _ q
 have hbb:=hb s1 us I1.kIn (by rw[List.append_nil];exact hl)
 rw[List.append_nil] at hbb
 refine wpAny_call (codeAny_mono (F.run X.A X.stack s1 H1 ⟨us,[]⟩ us vs Q E hr I1.env0 hbb r q) fun r s' hq=>?_)
 cases r with
 | error e=>exact I1.come hex hq
 | ok fl =>
  cases fl with
  | ret u=>exact I1.after hq
  | next=>exact False.elim hq
  | brk=>exact False.elim hq
  | cont=>exact False.elim hq
end
end L2
namespace L2
open PySem PySem.Spec PySem.W PySem.Calls PyProof.Rows
section
variable {M:Model}{K:PySem.W.Frag}
theorem exm_each {cls:Value}:∀ {cs:List Value}{b:Bool},PySem.W.exmAny K cls cs=some b→∀ c∈cs,∃ v,PySem.W.exmOne K cls c=some v
 | [],_,_,c,hc=>nomatch hc
 | d::r,b,h,c,hc=>by
  obtain⟨b1,d1,x1,y1,z1⟩:=PySem.W.exmAny_cons h
  rcases List.mem_cons.mp hc with e | e
  ·rw[e];exact⟨b1,x1⟩
  ·exact exm_each y1 c e
theorem exm_tup {cs:List Value}{cls:Value}{tp e:Addr}{b:Bool}{h:Heap}{n:Nat}{o:Obj}(X:K.In h)(LT:PySem.W.Looks M h (typeOf (.ref e)) cls)(hp:h.get? tp=some o)(hc:o.cls=.type "tuple")(hd:o.data=.seq cs.toArray n)
  (hx:PySem.W.exmAny K cls cs=some b):PySem.W.Looks M h (excMatches (.ref e) (.ref tp)) b:=by
 intro A Q E s k q
 have LT0:PySem.W.Looks M h (isInstance (.ref tp) (.type "tuple")) true:=by
  refine PySem.W.Looks.andThen (a:=.type "tuple") ?_ (PySem.W.Looks.of_pure isSubtype_tuple_tuple)
  exact hc▸(PySem.W.Looks.ld hp).andThen .now
 have X':=X.keeps k
 have one:∀ c∈cs,∃ v,PySem.W.exmOne K cls c=some v:=exm_each hx
 unfold excMatches
 refine wpAny_bind ((LT0.keeps k).here ?_)
 dsimp only
 rw[if_pos rfl]
 refine wpAny_bind (wpAny_seqItems (k _ _ hp) hd (wpAny_bind (wpAny_pure ?_)))
 dsimp only [Option.getD_some,Option.getD]
 refine wpAny_bind (wpAny_mono (wpAny_forIn_list _ (fun rest _ s'=>s'=s∧∀ c∈rest,c∈cs) (fun _ s'=>s'=s) ?_ (fun _ _ h=>h.1) _ _ ⟨rfl,fun c hc=>hc⟩) (fun _ s' es=>?_) fun _ _ z=>z)
 ·rintro c rest ⟨⟩ s' ⟨rfl,hm⟩
  obtain⟨v,hv⟩:=one c (hm c List.mem_cons_self)
  refine wpAny_bind (((PySem.W.exm_cls (M:=M) X' hv).1).here ?_)
  rw[if_neg (show ¬ (!true)=true from Bool.false_ne_true)]
  exact wpAny_pure ⟨rfl,fun c hc=>hm c (List.mem_cons_of_mem _ hc)⟩
 subst es
 refine wpAny_bind ((LT.keeps k).here ?_)
 refine wpAny_bind (wpAny_mono (wpAny_forIn_list _ (fun rest c s''=>s''=s'∧c=(none,())∧PySem.W.exmAny K cls rest=some b) (fun c s''=>s''=s'∧((c=(some true,())∧b=true)∨(c=(none,())∧b=false))) ?_ ?_ _ _ ⟨rfl,rfl,hx⟩) (fun c s'' h=>?_) fun _ _ z=>z)
 ·rintro c rest st s'' ⟨rfl,rfl,hr⟩
  obtain⟨b1,d1,x1,y1,z1⟩:=PySem.W.exmAny_cons hr
  refine wpAny_bind (((PySem.W.exm_cls (M:=M) X' x1).2).here ?_)
  cases b1 with
  | true =>
   rw[if_pos rfl]
   exact wpAny_pure ⟨rfl,.inl ⟨rfl,by rw[z1];rfl⟩⟩
  | false =>
   rw[if_neg Bool.false_ne_true]
   refine wpAny_pure ⟨rfl,rfl,?_⟩
   rw[y1,z1]
   rfl
 ·rintro c s'' ⟨rfl,rfl,hr⟩
  have:some false=some b:=hr
  cases this
  exact⟨rfl,.inr ⟨rfl,rfl⟩⟩
 ·obtain⟨rfl,⟨rfl,rfl⟩ | ⟨rfl,rfl⟩⟩:=h
  ·exact wpAny_pure q
  ·exact wpAny_pure q
end
def clsV:V→Option Value
 | .ref a=>some (.ref a)
 | .ty n=>some (.type n)
 | _=>none
def clsVs:List V→Option (List Value)
 | []=>some []
 | x::r=>match clsV x,clsVs r with
  | some c,some cs=>some (c::cs)
  | _,_=>none
theorem clsVs_of:∀ {xs:List V}{us cs:List Value},Vals xs us→clsVs xs=some cs→us=cs
 | [],_,_,.nil,h=>by cases h;rfl
 | x::r,u::us,cs,.cons rx rr,h=>by
  unfold clsVs at h
  split at h
  ·rename_i c cs' h1 h2
   cases h
   rw[clsVs_of rr h2]
   cases x with
   | ref a=>cases h1;cases (show u=Value.ref a from rx);rfl
   | ty n=>cases h1;cases (show u=Value.type n from rx);rfl
   | _=>cases h1
  ·cases h
end L2
namespace L2
open PySem PySem.Spec PyProof.Rows
def Cx.j3 (X:Cx)(ea:Addr):Cx:={ X with A:=X.A.mark (some (.ref ea)),calm:=false,xe:=fun _ _=>False }
section
variable {X:Cx}{pins:List (Addr×Obj)}{σ:St}{H:Hp}{s:Shared}{ea:Addr}
theorem Cx.Ok.j3 (ok:X.Ok)(ea:Addr):(X.j3 ea).Ok :=
 ⟨ok.mod,ok.kind,ok.glob,ok.blt,ok.above,ok.inj,ok.has,ok.cab,fun h=>Bool.noConfusion h,ok.frames,ok.stk,ok.exf,ok.bs,ok.bsz,ok.noex,ok.exfs,ok.funs,ok.frf⟩
theorem Inv.j3 (I:Inv X pins σ H s)(ea:Addr):Inv (X.j3 ea) pins σ H s:=⟨I.ok.j3 ea,I.os,I.bare,I.base,I.loc,I.cell,I.free,I.freeC,I.pin,I.hok,I.len⟩
theorem Inv.jO (ok:X.Ok)(I:Inv (X.j3 ea) pins σ H s):Inv X pins σ H s:=⟨ok,I.os,I.bare,I.base,I.loc,I.cell,I.free,I.freeC,I.pin,I.hok,I.len⟩
def ExO (ea:Addr)(cls:Value):HO:=.ext fun h=>∃ o vs,h.get? ea=some o∧o.cls=cls∧o.dict=none∧o.data=.fields vs
theorem exo_ok {P:Program}{w:World}{h:Heap}{T:Addr}{cls:Value}(x:Trd h ea T cls):vY P w H h ea (ExO ea cls):=by
 obtain⟨oe,vs,oT,ts,he,hc,hdi,hd,_⟩:=x
 refine⟨⟨oe,vs,he,hc,hdi,hd⟩,⟨oe,he⟩,?_⟩
 rintro h1 h2 ⟨o,vs',a,b⟩ k
 exact⟨o,vs',k o a,b⟩
theorem zCc {M:Model}{A:Around}{E:Value→Shared→Prop}{i:Nat}{n:Str}{pos:Pos}{Q:Unit→Shared→Prop}(I:Inv X pins σ H s)(hN:X.N.Nodup)(hi:X.N[i]?=some n)(hk:X.env.scope.names.lookup n=some .local)
  (h:∀ s',Inv X pins (σ.set i none) H s'→Q () s'):wpAny M A (do bindName X.env n .none;unbindBehindTheSuite X.env n pos) Q E s:=by
 obtain⟨m,hn,hl⟩:=id I.loc
 have hcls:(X.env.scope.kind == .class || (X.env.scope.kind == .module && X.env.locals != X.env.globals))=false:=by rw[I.ok.kind];rfl
 refine wpAny_nameGoes_keeps hk hn hcls fun h' v hn' hs=>h _ ?_
 obtain⟨oL,_,_,hoL,_⟩:=id hn
 have ne:∀ b o,X.s₀.heap.get? b=some o→b≠X.env.locals:=fun b o e=>Nat.ne_of_lt (Nat.lt_of_lt_of_le (Heap.lt_size e) I.ok.above)
 refine⟨I.ok,I.os,I.bare,⟨fun b o e n hb hx=>(hs.2 b (ne b o e)).trans (I.base.keep b o e n hb hx),fun b o e n hb hx=>?_,I.base.free,fun b o e hx=>?_,I.base.tups,I.base.frzs,I.base.tbls⟩,⟨_,hn',fun j y v' e1 e2 e3=>?_⟩,fun y c e=>?_,I.free,I.freeC,fun p hp=>?_,fun a o e=>?_,by simpa using I.len⟩
 ·obtain⟨sl,q⟩:=I.base.slot b o e n hb hx
  exact⟨sl,(hs.2 b (ne b o e)).trans q⟩
 ·obtain⟨o',q⟩:=I.base.there b o e hx
  exact⟨o',(hs.2 b (ne b o e)).trans q⟩
 ·by_cases hj:j=i
  ·subst hj
   rw[List.getElem?_set] at e2
   split at e2
   ·split at e2 <;> cases e2
   ·rename_i z;exact absurd rfl z
  ·rw[List.getElem?_set_ne (Ne.symm hj)] at e2
   obtain⟨u,r,q⟩:=hl j y v' e1 e2 e3
   refine⟨u,r,?_⟩
   rcases q with ⟨kk,e⟩ | ⟨kk,c,e,z⟩
   ·refine .inl ⟨kk,?_⟩
    have:y≠n:=fun z=>hj (nodup_ix hN e1 (z▸hi))
    simp [this,e]
   ·exact .inr ⟨kk,c,e,z.sameBut hs (I.cne y c e)⟩
 ·obtain⟨w',z⟩:=I.cell y c e
  exact⟨w',z.sameBut hs (I.cne y c e)⟩
 ·obtain⟨e,n,nl,nf,d⟩:=I.pin p hp
  exact⟨(hs.2 p.1 nl).trans e,n,nl,nf,d⟩
 ·refine (I.hok a o e).stay (fun b u hb q=>(hs.2 b fun z=>?_).trans q) (fun _ q=>q) fun _ _ q=>q
  have fr:=I.free
  rcases hb with y | y
  ·rw[← z,y,e] at fr;cases fr
  ·rw[← z,y] at fr;cases fr
end
def endAs (D:Ends)(i:Nat):Ends:={ nx:=fun σ H=>D.nx (σ.set i none) H,rt:=D.rt,bk:=fun σ H=>D.bk (σ.set i none) H,ct:=fun σ H=>D.ct (σ.set i none) H }
def Mt (K:PySem.W.Frag)(H:Hp)(c:V)(cls:Value)(b:Bool):Prop:=match c with
 | .ref C=>PySem.W.exmOne K cls (.ref C)=some b∨∃ ys cs,H C=some (.tup ys)∧clsVs ys=some cs∧PySem.W.exmAny K cls cs=some b
 | .ty T=>PySem.W.exmOne K cls (.type T)=some b
 | _=>False
abbrev THn:=Ends→Value→St→Hp→Prop
def PH (X:Cx)(hs:List ExceptHandler)(t:THn):Prop :=
 ∀ (pins:List (Addr×Obj))(s:Shared)(σ:St)(H:Hp)(D:Ends)(ea T:Addr)(cls:Value),Inv X pins σ H s→Trd s.heap ea T cls→zCz X pins H ea→zCz X pins H T→t D cls σ H →
  wpAny (model X.prog X.w) X.A (handleBy (.ref ea) X.env hs) (SP X pins D) X.xe s
theorem ph_never {X:Cx}{hs:List ExceptHandler}:PH X hs (fun _ _ _ _=>False):=fun _ _ _ _ _ _ _ _ _ _ _ _ h=>h.elim
section
variable {X:Cx}{pins:List (Addr×Obj)}{σ:St}{H:Hp}{s:Shared}{ea T:Addr}{cls:Value}
theorem zCz.nofs (I:Inv X pins σ H s){b:Addr}(o:zCz X pins H b):b∉X.fs:=fun hb=>by
 obtain⟨_,ob,q,_⟩:=I.ok.funs.mem hb
 rw[o.new] at q
 cases q
theorem zCz.nostk (I:Inv X pins σ H s){b:Addr}(o:zCz X pins H b):b∉frs X.stack:=fun hb=>by
 rcases List.mem_cons.mp (I.zFk b hb) with z | z
 ·exact o.loc z
 ·exact o.nofs I z
theorem trd_ty {M:Model}{h:Heap}(x:Trd h ea T cls):PySem.W.Looks M h (typeOf (.ref ea)) cls:=by
 obtain⟨oe,vs,oT,ts,he,hc,_⟩:=x
 exact hc▸(PySem.W.Looks.ld he).andThen .now
theorem ph_test {tx:Expr}{te:TE}{pos:Pos}{R:Result→Shared→Prop}(ht:PE (X.j3 ea) tx te)(I:Inv X pins σ H s)(x:Trd s.heap ea T cls)(o1:zCz X pins H ea)(o2:zCz X pins H T)
  {Q0:VK}(h:te σ H Q0)(q:∀ c H1 s1,Q0 c H1→Inv X pins σ H1 s1→Trd s1.heap ea T cls→zCz X pins H1 ea→zCz X pins H1 T→∃ b,Mt X.K H1 c cls b∧R (.ok (if b then .brk else .next)) s1) :
  codeAny (model X.prog X.w) (X.A.mark (some (.ref ea))) (.handlers (.ref ea) [.ExceptHandler (some tx) none [] pos] X.env) R s:=by
 obtain⟨oe,vs,oT,ts,he,hc,hdi,hd,h1,hTe,hT,hdT,h3⟩:=id x
 have I0:Inv (X.j3 ea) (pins ++ [(ea,oe),(T,oT)]) σ H s:=(I.j3 ea).zBh fun p hp=>by
  rcases List.mem_append.mp hp with z | z
  ·exact I.pin p (List.mem_append_right _ z)
  ·rcases List.mem_cons.mp z with y | y
   ·rw[y];exact⟨he,o1.un,o1.loc,o1.nofs I,fun v q=>by have q':oe.data=_:=q;rw[hd] at q';cases q'⟩
   ·rw[List.mem_singleton.mp y];exact⟨hT,o2.un,o2.loc,o2.nofs I,fun v q=>by have q':oT.data=_:=q;rw[hdT] at q';cases q'⟩
 refine codeAny_handlers_test (wpAny_mono (ht _ s σ H _ I0 h) (fun u s1 ⟨c,H1,I1,rc,qc⟩=>?_) fun _ _ z=>False.elim z)
 have p1:=I1.pin (ea,oe) (by simp)
 have p2:=I1.pin (T,oT) (by simp)
 have x1:Trd s1.heap ea T cls:=⟨oe,vs,oT,ts,p1.1,hc,hdi,hd,h1,hTe,p2.1,hdT,h3⟩
 have I2:Inv X pins σ H1 s1:=Inv.jO I.ok (I1.zBh fun p hp=>I1.pin p (List.mem_append_right _ (List.mem_append_left _ hp)))
 obtain⟨b,mt,fin⟩:=q c H1 s1 qc I2 x1 ⟨o1.new,p1.2.1,o1.loc,o1.cel,o1.pin⟩ ⟨o2.new,p2.2.1,o2.loc,o2.cel,o2.pin⟩
 cases c with
 | ref C =>
  cases (show u=Value.ref C from rc)
  rcases mt with mt | ⟨ys,cs,ht,hv,mt⟩
  ·exact (PySem.W.exm_one I2.kIn (trd_ty x1) mt).here fin
  ·obtain⟨its,rv,⟨o,ho,hcl,n,hda⟩,_⟩:=I2.tuple (SqT.of ht)
   have ev:=clsVs_of rv hv
   subst ev
   exact (exm_tup I2.kIn (trd_ty x1) ho hcl hda mt).here fin
 | ty n =>
  cases (show u=Value.type n from rc)
  exact (PySem.W.exm_one I2.kIn (trd_ty x1) mt).here fin
 | _=>exact mt.elim
theorem ph_land {M:Model}{A:Around}{E:Value→Shared→Prop}{Q:Unit→Shared→Prop}(I:Inv X pins σ H s)(x:Trd s.heap ea T cls)(o1:zCz X pins H ea)(o2:zCz X pins H T)
  (h:∀ s1,Inv X pins σ (upd H ea (ExO ea cls)) s1→Q () s1):wpAny M A (setFlight (.ref ea) none) Q E s:=by
 refine land_again x fun h' k x'=>h _ ?_
 have p:Pas (frs X.stack) [T] s.heap h':=⟨fun b o q _ n=>k b o (fun z=>n (by simp [z])) q,fun b o q hb=>⟨o.slots,k b o (fun z=>o2.nostk I (z▸hb)) q⟩⟩
 have I':=I.pas p fun b hb=>by rw[List.mem_singleton.mp hb];exact o2
 exact I'.track o1 (exo_ok x')
end
section
variable {X:Cx}{b₀:Stmt}{j3:List Stmt}{rest:List ExceptHandler}{tx:Expr}{te:TE}{ts:TS}{tr:THn}{pos:Pos}
theorem sp_as {pins:List (Addr×Obj)}{D:Ends}{i:Nat}{n:Str}{f:Flow}{s:Shared}{ea:Addr}{hpos:Pos}{E:Value→Shared→Prop}(ok:X.Ok)(hN:X.N.Nodup)(hi:X.N[i]?=some n)(hk:X.env.scope.names.lookup n=some .local)(h:SP (X.j3 ea) pins (endAs D i) f s) :
  wpAny (model X.prog X.w) X.A (do bindName X.env n .none;unbindBehindTheSuite X.env n hpos) (fun _ s'=>SP X pins D f s') E s:=by
 cases f with
 | next=>obtain⟨σ,H,I,q⟩:=h;exact zCc (I.jO ok) hN hi hk fun s' I'=>⟨_,H,I',q⟩
 | brk=>obtain⟨σ,H,I,q⟩:=h;exact zCc (I.jO ok) hN hi hk fun s' I'=>⟨_,H,I',q⟩
 | cont=>obtain⟨σ,H,I,q⟩:=h;exact zCc (I.jO ok) hN hi hk fun s' I'=>⟨_,H,I',q⟩
 | ret u=>obtain⟨v,σ,H,I,r,q⟩:=h;exact zCc (I.jO ok) hN hi hk fun s' I'=>⟨v,_,H,I',r,q⟩
def tAs (K:PySem.W.Frag)(i:Nat)(te:TE)(ts:TS)(tr:THn):THn:=fun D cls σ H=>te σ H fun c H1=>∃ b,Mt K H1 c cls b∧if b=true then ∀ ea,H1 ea=none→ts (endAs D i) (σ.set i (some (.ref ea))) (upd H1 ea (ExO ea cls)) else tr D cls σ H1
theorem ph_as {i:Nat}{n:Str}(hN:X.N.Nodup)(hi:X.N[i]?=some n)(hk:X.env.scope.names.lookup n=some .local)(ht:∀ ea,PE (X.j3 ea) tx te)(hs:∀ ea,PSs (X.j3 ea) (b₀::j3) ts)(hr:PH X rest tr) :
  PH X (.ExceptHandler (some tx) (some n) (b₀::j3) pos::rest) (tAs X.K i te ts tr):=by
 intro pins s σ H D ea T cls I x o1 o2 h
 refine wpAny_handleBy_cons (ph_test (ht ea) I x o1 o2 h fun c H1 s1 ⟨b,mt,q⟩ I1 x1 u1 u2=>⟨b,mt,?_⟩) (by intro q;cases q)
 cases b with
 | false=>exact hr pins s1 σ H1 D ea T cls I1 x1 u1 u2 q
 | true =>
  refine codeAny_handlers_suite_as (ph_land I1 x1 u1 u2 fun s2 I2=>?_)
  refine zBx (X:=X.j3 ea) (v:=.ref ea) (I2.j3 ea) hN hi (.inl hk) rfl (fun s3 I3=>?_) (.inr hk)
  exact wpAny_mono (hs ea pins s3 _ _ (endAs D i) I3 (q ea u1.un)) (fun f s4 z=>sp_as I.ok hN hi hk z) fun _ _ z=>False.elim z
theorem SP.jO {pins:List (Addr×Obj)}{D:Ends}{f:Flow}{s:Shared}{ea:Addr}(ok:X.Ok)(h:SP (X.j3 ea) pins D f s):SP X pins D f s:=by
 cases f with
 | next=>obtain⟨σ,H,I,q⟩:=h;exact⟨σ,H,I.jO ok,q⟩
 | brk=>obtain⟨σ,H,I,q⟩:=h;exact⟨σ,H,I.jO ok,q⟩
 | cont=>obtain⟨σ,H,I,q⟩:=h;exact⟨σ,H,I.jO ok,q⟩
 | ret u=>obtain⟨v,σ,H,I,r,q⟩:=h;exact⟨v,σ,H,I.jO ok,r,q⟩
theorem ps_try {body:List Stmt}{h₀:ExceptHandler}{hs:List ExceptHandler}{tb:TSX}{th:THn}(hex:X.ex=[])(hst:X.stack=X.env::X.outer)(hfm:X.env.frame=some X.env.locals)(hb:PSXs X body tb)(hh:PH X (h₀::hs) th) :
  PS X (.Try body (h₀::hs) [] [] pos) (fun D σ H=>tb D (fun σ1 cls _ H1=>th D cls σ1 H1) σ H):=by
 intro pins s σ H D I h
 refine wpAny_Try_except (wpAny_mono (hb pins s σ H D _ I h) (fun f s1 q=>?_) fun e s1 ⟨σ1,ea,T,cls,H1,e1,I1,x1,o1,o2,q⟩=>?_)
 ·cases f with
  | next=>exact wpAny_execs_nil q
  | ret v=>exact q
  | brk=>exact q
  | cont=>exact q
 ·subst e1
  have fr:=I1.ok.frames
  have st:=I1.stack
  rw[hst] at fr st
  refine noteland fr st hfm x1.xat fun h' T' p hT tr=>?_
  rw[← hst] at p
  have own:∀ b∈[ea,T],zCz X pins H1 b:=fun b hb=>by
   rcases List.mem_cons.mp hb with z | z
   ·rw[z];exact o1
   ·rw[List.mem_singleton.mp z];exact o2
  have I2:=I1.pas p own
  refine hh pins _ σ1 H1 D ea T' cls I2 tr o1 ?_ q
  rcases hT with z | z
  ·exact own T' z
  ·exact zCz.of I1 hex z (I1.hok.free z)
end
end L2
namespace L2
open PySem PySem.Spec PySem.W PySem.Calls PyProof.Rows
structure ExcK (K:PySem.W.Frag)(C:Addr):Prop where
 ga:PySem.W.findIn K (.ref C) "__getattribute__"=some (some (.builtin "BaseException.__getattribute__"))
 gt:PySem.W.findIn K (.ref C) "__getattr__"=some none
 kc:PySem.W.findIn K (.ref C) "__class__"=some (some (.builtin "object.__class__"))
 ob:PySem.W.mroIn K C (.type "object")=some true
 be:PySem.W.mroIn K C (.type "BaseException")=some true
 gs:PySem.W.specialIn K (.builtin "object.__class__") "__get__"=some (some (.builtin "getset_descriptor.__get__"))
 tk:PySem.W.takesIn K (.builtin "object.__class__")=some true
theorem ExcK.cls {K:PySem.W.Frag}{C:Addr}(k:ExcK K C):∃ cd,PySem.W.clsIn K C=some cd:=by
 obtain⟨cd,h,_⟩:=Option.bind_eq_some_iff.mp k.ob
 exact⟨cd,h⟩
theorem bga_kind:builtinKind "BaseException.__getattribute__"=some .slot:=by decide +kernel
theorem bga_split:splitId "BaseException.__getattribute__"=some ("BaseException","__getattribute__"):=by decide +kernel
section
variable {prog:Program}{w:World}{A:Around}{E:Value→Shared→Prop}{s:Shared}{K:PySem.W.Frag}{x C:Addr}{ox:Obj}
theorem bga_check {nm:Value}{Q:Unit→Shared→Prop}(k:ExcK K C)(X:K.In s.heap)(I:PySem.W.InstAt s.heap x ox C none)(h:Q () s):wpAny (model prog w) A (checkBuiltinCall "BaseException.__getattribute__" ⟨[.ref x,nm],[]⟩) Q E s:=by
 have L0:=I.type (M:=model prog w)
 have L1:=PySem.W.looks_mroIn (M:=model prog w) X k.be
 have LI:PySem.W.Looks (model prog w) s.heap (isInstance (.ref x) (.type "BaseException")) true:=L0.andThen L1
 simp only [checkBuiltinCall,bga_kind,bga_split]
 refine wpAny_bind (LI.here ?_)
 simp only [Bool.not_true,Bool.false_eq_true,if_false]
 have ha:=F.args_bexc_ga (.ref x) nm
 cases hsig:Manifest.signature? "BaseException.__getattribute__" with
 | none=>exact wpAny_pure h
 | some sig =>
  simp only [argsOk,hsig] at ha
  have h2:Bind.checkArgs "BaseException.__getattribute__" sig ⟨[.ref x,nm],[]⟩=pure ():=ha
  show wpAny _ _ (Bind.checkArgs "BaseException.__getattribute__" sig ⟨[.ref x,nm],[]⟩) Q E s
  rw[h2]
  exact wpAny_pure h
theorem exc_class {Q:Option Value→Shared→Prop}(k:ExcK K C)(X:K.In s.heap)(I:PySem.W.InstAt s.heap x ox C none)(h:Q (some (.ref C)) { s with toks:=s.toks+1 }):wpAny (model prog w) A (getAttr? (.ref x) "__class__") Q E s:=by
 obtain⟨cd,hcd⟩:=k.cls
 have hf:PySem.W.findObj K C none "__class__"=some (.bind (.builtin "getset_descriptor.__get__") (.builtin "object.__class__")):=by
  unfold PySem.W.findObj
  rw[hcd,Option.bind_some,k.kc,Option.bind_some]
  dsimp only
  rw[k.gs,Option.bind_some]
  dsimp only
  rw[k.tk,Option.bind_some]
 obtain⟨hh,g,d,t,os⟩:=s
 have L0:=I.type (M:=model prog w)
 have L1:=PySem.W.looks_findIn (M:=model prog w) X k.ga
 have LH:=PySem.W.looks_hook (M:=model prog w) (mc:=.ref C) (r:=none) X k.gt
 have LF:=PySem.W.looks_find (M:=model prog w) X I hf
 unfold getAttr? getAttrBy? getAttrBy
 refine wpAny_bind (wpAny_mkText (wpAny_bind (wpAny_attempt (wpAny_holding (wpAny_bind (L0.at (wpAny_bind (L1.at ?_))))))))
 show wpAny _ _ (getAttrByItsOwn _ _ _ _ _ _) _ _ _
 unfold getAttrByItsOwn
 refine wpAny_bind (LH.at (wpAny_bind (wpAny_attempt (wpAny_holding ?_))))
 show wpAny _ _ (boundAndCalled _ _ _) _ _ _
 unfold boundAndCalled
 rw[F.excAttr_ValueError.ga.bind]
 refine wpAny_bind (wpAny_pure ?_)
 refine wpAny_call (codeAny_call_builtin F.excAttr_ValueError.ga.plain F.entry_bexc_ga (bga_check k X I ?_))
 unfold Builtin.«object.__getattribute__»
 refine wpAny_bind (wpAny_pure ?_)
 refine wpAny_bind (wpAny_pure ?_)
 refine wpAny_bind (L0.at (wpAny_bind (LF.at ?_)))
 show wpAny _ _ (holding [.builtin "object.__class__"] (call (.builtin "getset_descriptor.__get__") [.builtin "object.__class__",.ref x,.ref C]) >>= ret) _ _ _
 refine wpAny_bind (wpAny_holding (wpAny_call (PySem.W.class_get (ox:=ox) (od:=none) X I k.ob (wpAny_pure ?_))))
 show wpAny _ _ (handedOut (.ref C)) _ _ _
 exact wpAny_pure (wpAny_pure h)
def ExAt (x:Addr)(C:Addr)(h:Heap):Prop:=∃ o vs,h.get? x=some o∧o.cls=.ref C∧o.dict=none∧o.data=.fields vs
theorem ExAt.inst {h:Heap}(e:ExAt x C h):∃ o,PySem.W.InstAt h x o C none:=by
 obtain⟨o,vs,a,b,c,d⟩:=e
 refine⟨o,a,b,?_,?_⟩
 ·unfold PySem.W.notCls;rw[d]
 ·rw[c];trivial
theorem kitx_exc (k:ExcK K C):PySem.W.KitX K (.ref x) (.ref C) (ExAt x C) where
 ty:=fun M h _ e=>by
  obtain⟨o,I⟩:=e.inst
  exact I.type
 it:=fun M h X _=>by
  obtain⟨cd,hcd⟩:=k.cls
  unfold PySem.W.clsIn at hcd
  split at hcd
  ·rename_i c' d' cd' sl' ho
   intro A' Q' E' s' kk q
   unfold isType loadHead
   exact wpAny_bind (wpAny_loadPart (kk _ _ (X _ _ ho)) (wpAny_pure q))
  ·cases hcd
 ne:=fun h tp dd its n sl X htp=>by
  obtain⟨cd,hcd⟩:=k.cls
  refine Bool.eq_false_iff.mpr fun q=>?_
  have e:C=tp:=Value.ref.inj (beq_iff_eq.mp q)
  subst e
  unfold PySem.W.clsIn at hcd
  split at hcd
  ·rename_i c' d' cd' sl' ho
   have z:=(X _ _ ho).symm.trans htp
   cases z
  ·cases hcd
 ca:=fun X e q=>by
  obtain⟨o,I⟩:=e.inst
  exact exc_class k X I q
end
section
variable {X:Cx}
theorem call_isinstX {K:PySem.W.Frag}(hK:X.K=K):j4 X (.builtin "isinstance") (fun xs H Q=>∃ ea C c cv b,xs=[.ref ea,c]∧H ea=some (ExO ea (.ref C))∧ExcK K C∧clsV c=some cv∧PySem.W.kitOne K (.ref C) cv=some b∧Q (.bl b) H):=by
 subst hK
 intro pins s σ H xs us Q I r h
 obtain⟨ea,C,c,cv,b,rfl,hx,k,rc,kk,q⟩:=h
 obtain⟨u,w',rfl,ru,rw'⟩:=vals2 r
 cases ru
 have e:w'=cv:=by
  cases c with
  | ref a=>cases rc;exact rw'
  | ty n=>cases rc;exact rw'
  | _=>cases rc
 subst e
 obtain⟨⟨o,vs,a1,a2,a3,a4⟩,_⟩:=(show vY X.prog X.w H s.heap ea (ExO ea (.ref C)) from I.hok ea _ hx)
 exact PySem.W.kia_one (kitx_exc k) I.kIn ⟨o,vs,a1,a2,a3,a4⟩ kk (fun z=>nomatch z) fun tk=>⟨.bl b,H,I.tok tk,rfl,q⟩
end
section
variable {X:Cx}
theorem zBt {K:PySem.W.Frag}(hK:X.K=K):j4 X (.builtin "isinstance") (fun xs H Q=>∃ ea C tp ys cs b,xs=[.ref ea,.ref tp]∧H ea=some (ExO ea (.ref C))∧ExcK K C∧H tp=some (.tup ys)∧clsVs ys=some cs∧PySem.W.kitAny K (.ref C) cs=some b∧Q (.bl b) H):=by
 subst hK
 intro pins s σ H xs us Q I r h
 obtain⟨ea,C,tp,ys,cs,b,rfl,hx,k,ht,hv,kk,q⟩:=h
 obtain⟨u,w',rfl,ru,rw'⟩:=vals2 r
 cases ru
 cases rw'
 obtain⟨its,rv,pl,_⟩:=I.tuple (SqT.of ht)
 have e:=clsVs_of rv hv
 subst e
 obtain⟨⟨cl,dd,da,sl⟩,ho,hc,n,hd⟩:=pl
 dsimp only at hc hd
 subst hc hd
 obtain⟨⟨o,vs,a1,a2,a3,a4⟩,_⟩:=(show vY X.prog X.w H s.heap ea (ExO ea (.ref C)) from I.hok ea _ hx)
 exact PySem.W.kia_tup (kitx_exc k) I.kIn ⟨o,vs,a1,a2,a3,a4⟩ ho kk (fun z=>nomatch z) fun tk=>⟨.bl b,H,I.tok tk,rfl,q⟩
end
theorem bi_ValueError:bootBuiltins "ValueError"=some (.type "ValueError"):=by decide +kernel
end L2
namespace L2
open PySem PySem.Spec PyProof.Rows PySem.SeqAt
section
variable {pg:Program}{wd:World}{Ar:Around}{Ex:Value→Shared→Prop}{st:Shared}
theorem apart {it to:Addr}{j:Int}{src:Addr}{k:Nat}(ri:st.heap.IsRevIter it src j)(lt:st.heap.get? to=some { cls:=.type "list",data:=.seq #[] k }):to≠it:=by
 rintro rfl
 obtain⟨ob,g,cl,_⟩:=ri
 rw[lt] at g
 cases g
 exact absurd cl (show ¬ Value.type "list"=Value.type "list_reverseiterator" by decide)
end
section
variable {X:Cx}
end
end L2
namespace L2
open PySem PySem.Spec PyProof.Rows PySem.SeqAt
end L2
namespace Pt
def NoDiv (m b:Int):Prop:=∀ d,2≤d→d < b→¬ d∣m
def Prm (p:Int):Prop:=2≤p∧∀ d,2≤d→d < p→¬ d∣p
def IsPow (p q:Int):Prop:=∃ e:Nat,q=p^(e+1)
def Prd:List (Int×Int)→Int
 | []=>1
 | a::r=>a.2*Prd r
theorem pow1 (a:Int):a^(0+1)=a:=by rw[Int.pow_succ,Int.pow_zero,Int.one_mul]
theorem zAh:∀ (a b:List (Int×Int)),Prd (a ++ b)=Prd a*Prd b
 | [],b=>by simp [Prd]
 | x::r,b=>by simp [Prd,zAh r b,Int.mul_assoc]
structure Row (x:Int×Int):Prop where
 pr:Prm x.1
 pw:IsPow x.1 x.2
structure PInv (n:Int)(ps:List (Int×Int))(left p:Int):Prop where
 prd:Prd ps*left=n
 nod:NoDiv left p
 row:∀ x∈ps,Row x
 low:∀ x∈ps,x.1 < p
 srt:ps.Pairwise fun a b=>a.1 < b.1
structure Parts (n:Int)(ps:List (Int×Int)):Prop where
 prd:Prd ps=n
 row:∀ x∈ps,Row x
 srt:ps.Pairwise fun a b=>a.1 < b.1
theorem start (n:Int):PInv n [] n 2 :=
 ⟨by simp [Prd],fun d h1 h2=>by omega,fun x h=>(nomatch h),fun x h=>(nomatch h),List.Pairwise.nil⟩
structure QInv (m p q:Int):Prop where
 pos:1≤q
 pw:∃ e:Nat,q=p^e
 dv:q∣m
theorem q0 (m p:Int):QInv m p 1:=⟨by omega,⟨0,by simp⟩,Int.one_dvd m⟩
theorem q1 {m p q:Int}(hp:2≤p)(h:QInv m p q)(d:m%(q*p)=0):QInv m p (q*p):=by
 obtain⟨h1,⟨e,he⟩,h3⟩:=h
 have:=Int.mul_le_mul_of_nonneg_left hp (show 0≤q by omega)
 exact⟨by omega,⟨e+1,by rw[he,Int.pow_succ]⟩,Int.dvd_of_emod_eq_zero d⟩
theorem q_le {m p q:Int}(hm:1≤m)(h:QInv m p q):q≤m:=Int.le_of_dvd (by omega) h.dv
theorem q_grow {p q:Int}(hp:2≤p)(h:1≤q):q < q*p:=by
 have:=Int.mul_le_mul_of_nonneg_left hp (show 0≤q by omega)
 omega
structure QEnd (m p q:Int):Prop where
 inv:QInv m p q
 no:¬ q*p∣m
theorem q2 {m p q:Int}(h:QInv m p q)(d:¬ m%(q*p)=0):QEnd m p q:=⟨h,fun z=>d (Int.emod_eq_zero_of_dvd z)⟩
theorem turnB {n:Int}{ps:List (Int×Int)}{left p q:Int}(h:PInv n ps left p)(hq:QEnd left p q)(h1:¬ q > 1):PInv n ps left (p+1):=by
 have e:q=1:=by have:=hq.inv.pos;omega
 have no:¬ p∣left:=by have:=hq.no;rw[e,Int.one_mul] at this;exact this
 refine⟨h.prd,fun d h2 h3=>?_,h.row,fun x hx=>by have:=h.low x hx;omega,h.srt⟩
 by_cases c:d=p
 ·rw[c];exact no
 ·exact h.nod d h2 (by omega)
theorem turnA {n:Int}{ps:List (Int×Int)}{left p q:Int}(hp:2≤p)(h:PInv n ps left p)(hq:QEnd left p q)(h1:q > 1):PInv n (ps ++ [(p,q)]) (left/q) (p+1):=by
 obtain⟨⟨q1,⟨e,he⟩,⟨c,hc⟩⟩,no⟩:=hq
 have ec:left/q=c:=by rw[hc];exact Int.mul_ediv_cancel_left c (by omega)
 cases e with
 | zero=>rw[he] at h1;simp at h1
 | succ e =>
  have pq:p∣q:=by rw[he,Int.pow_succ];exact Int.dvd_mul_left _ _
  have pl:p∣left:=Int.dvd_trans pq ⟨c,hc⟩
  have cl:c∣left:=⟨q,by rw[hc,Int.mul_comm]⟩
  have prm:Prm p:=⟨hp,fun d h2 h3 z=>h.nod d h2 h3 (Int.dvd_trans z pl)⟩
  refine⟨?_,?_,?_,?_,?_⟩
  ·rw[zAh,ec];simp only [Prd,Int.mul_one]
   rw[Int.mul_assoc,← hc];exact h.prd
  ·rw[ec]
   intro d h2 h3 z
   by_cases k:d=p
   ·apply no
    obtain⟨f,hf⟩:=z
    exact⟨f,by rw[hc,hf,k,Int.mul_assoc]⟩
   ·exact h.nod d h2 (by omega) (Int.dvd_trans z cl)
  ·intro x hx
   rcases List.mem_append.mp hx with hx | hx
   ·exact h.row x hx
   ·obtain rfl:=List.mem_singleton.mp hx
    exact⟨prm,⟨e,he⟩⟩
  ·intro x hx
   rcases List.mem_append.mp hx with hx | hx
   ·have:=h.low x hx;omega
   ·obtain rfl:=List.mem_singleton.mp hx
    show p < p+1;omega
  ·rw[List.pairwise_append]
   refine⟨h.srt,List.pairwise_singleton _ _,fun a ha b hb=>?_⟩
   obtain rfl:=List.mem_singleton.mp hb
   exact h.low a ha
theorem left_pos {left q:Int}(h:1≤left)(hd:q∣left)(hq:1≤q):1≤left/q∧left/q≤left:=by
 obtain⟨c,hc⟩:=hd
 have ec:left/q=c:=by rw[hc];exact Int.mul_ediv_cancel_left c (by omega)
 rw[ec]
 have cp:1≤c:=by
  rcases Int.lt_or_le 0 c with z | z
  ·omega
  ·have:=Int.mul_le_mul_of_nonneg_left z (show 0≤q by omega)
   omega
 have:=Int.mul_le_mul_of_nonneg_right hq (show 0≤c by omega)
 omega
theorem prm_left {left p:Int}(hp:2≤p)(h:NoDiv left p)(hb:¬ p*p≤left)(h1:left > 1):Prm left∧p≤left:=by
 have pl:p≤left:=by
  rcases Int.lt_or_le left p with z | z
  ·exact absurd (Int.dvd_refl left) (h left (by omega) z)
  ·exact z
 refine⟨⟨by omega,fun d h2 h3 hd=>?_⟩,pl⟩
 obtain⟨c,hc⟩:=id hd
 by_cases dp:d < p
 ·exact h d h2 dp hd
 ·have c2:2≤c:=by
   rcases Int.lt_or_le c 2 with z | z
   ·have:c≤1:=by omega
    have:=Int.mul_le_mul_of_nonneg_left this (show 0≤d by omega)
    omega
   ·exact z
  by_cases cp:c < p
  ·exact h c c2 cp ⟨d,by rw[hc,Int.mul_comm]⟩
  ·have a1:=Int.mul_le_mul_of_nonneg_left (show p≤c by omega) (show 0≤d by omega)
   have a2:=Int.mul_le_mul_of_nonneg_right (show p≤d by omega) (show 0≤p by omega)
   omega
theorem endA {n:Int}{ps:List (Int×Int)}{left p:Int}(hp:2≤p)(h:PInv n ps left p)(hb:¬ p*p≤left)(h1:left > 1):Parts n (ps ++ [(left,left)]):=by
 obtain⟨pr,pl⟩:=prm_left hp h.nod hb h1
 refine⟨?_,?_,?_⟩
 ·rw[zAh];simp only [Prd,Int.mul_one];exact h.prd
 ·intro x hx
  rcases List.mem_append.mp hx with hx | hx
  ·exact h.row x hx
  ·obtain rfl:=List.mem_singleton.mp hx
   exact⟨pr,⟨0,(pow1 left).symm⟩⟩
 ·rw[List.pairwise_append]
  refine⟨h.srt,List.pairwise_singleton _ _,fun a ha b hb=>?_⟩
  obtain rfl:=List.mem_singleton.mp hb
  have:=h.low a ha
  show a.1 < left;omega
theorem endB {n:Int}{ps:List (Int×Int)}{left p:Int}(h:PInv n ps left p)(h0:1≤left)(h1:¬ left > 1):Parts n ps:=by
 have:left=1:=by omega
 refine⟨?_,h.row,h.srt⟩
 have:=h.prd
 rw[‹left=1›,Int.mul_one] at this
 exact this
structure RInv (p q r:Int):Prop where
 ex:∃ k e:Nat,r=p^(k+1)∧q=p^(e+1)∧k≤e
theorem r0 {p q:Int}(h:IsPow p q):RInv p q p:=by
 obtain⟨e,he⟩:=h
 exact⟨0,e,(pow1 p).symm,he,Nat.zero_le _⟩
theorem zBz {p:Int}(hp:2≤p)(k:Nat):1≤p^k:=by
 induction k with
 | zero=>simp
 | succ k ih =>
  rw[Int.pow_succ]
  have:=Int.mul_le_mul_of_nonneg_left hp (show 0≤p^k by omega)
  omega
theorem pow_mono {p:Int}(hp:2≤p){k e:Nat}(h:k≤e):p^k≤p^e:=by
 obtain⟨d,rfl⟩:=Nat.exists_eq_add_of_le h
 rw[Int.pow_add]
 have a:=zBz hp k
 have:=Int.mul_le_mul_of_nonneg_left (zBz hp d) (show 0≤p^k by omega)
 omega
theorem r1 {p q r:Int}(hp:2≤p)(h:RInv p q r)(hl:r < q):RInv p q (r*p):=by
 obtain⟨k,e,hr,hq,hk⟩:=h
 refine⟨k+1,e,by rw[hr,← Int.pow_succ],hq,?_⟩
 rcases Nat.lt_or_ge k e with z | z
 ·exact z
 ·have:k=e:=by omega
  rw[hr,hq,this] at hl;omega
theorem r_pos {p q r:Int}(hp:2≤p)(h:RInv p q r):1≤r∧r≤q:=by
 obtain⟨k,e,hr,hq,hk⟩:=h
 rw[hr,hq]
 exact⟨zBz hp _,pow_mono hp (by omega)⟩
theorem r2 {p q r:Int}(hp:2≤p)(h:RInv p q r)(hl:¬ r < q):r=q:=by
 have:=r_pos hp h;omega
theorem zFc {x:Int×Int}(h:Row x):2≤x.1∧x.1≤x.2:=by
 obtain⟨e,he⟩:=h.pw
 refine⟨h.pr.1,?_⟩
 have a:=pow_mono h.pr.1 (show 0+1≤e+1 by omega)
 rw[← he,pow1] at a
 exact a
theorem zCr:∀ (ps:List (Int×Int)),(∀ x∈ps,Row x)→1≤Prd ps
 | [],_=>by simp [Prd]
 | x::r,h=>by
  have a:=zFc (h x List.mem_cons_self)
  have b:=zCr r fun y hy=>h y (List.mem_cons_of_mem _ hy)
  have c:=Int.mul_le_mul_of_nonneg_right (show 1≤x.2 by omega) (show 0≤Prd r by omega)
  simp only [Prd];omega
theorem le_Prd:∀ (ps:List (Int×Int)),(∀ x∈ps,Row x)→∀ x∈ps,x.2≤Prd ps
 | [],_,_,h=>nomatch h
 | y::r,h,x,hx=>by
  have a:=zFc (h y List.mem_cons_self)
  have h':∀ z∈r,Row z:=fun z hz=>h z (List.mem_cons_of_mem _ hz)
  have b:=zCr r h'
  simp only [Prd]
  rcases List.mem_cons.mp hx with e | e
  ·rw[e]
   have c:=Int.mul_le_mul_of_nonneg_left b (show 0≤y.2 by omega)
   omega
  ·have i:=le_Prd r h' x e
   have c:=Int.mul_le_mul_of_nonneg_right (show 1≤y.2 by omega) (show 0≤Prd r by omega)
   omega
end Pt
namespace Pt
theorem copr {p a:Int}(hp:Prm p)(h:¬ p∣a):Nat.Coprime p.natAbs a.natAbs:=by
 have g1:(Nat.gcd p.natAbs a.natAbs)∣p.natAbs:=Nat.gcd_dvd_left _ _
 have g2:(Nat.gcd p.natAbs a.natAbs)∣a.natAbs:=Nat.gcd_dvd_right _ _
 have e1:((Nat.gcd p.natAbs a.natAbs:Nat):Int)∣p:=Int.ofNat_dvd_left.mpr g1
 have e2:((Nat.gcd p.natAbs a.natAbs:Nat):Int)∣a:=Int.ofNat_dvd_left.mpr g2
 have p2:=hp.1
 have gp:0 < Nat.gcd p.natAbs a.natAbs:=Nat.gcd_pos_of_pos_left _ (by omega)
 have gl:((Nat.gcd p.natAbs a.natAbs:Nat):Int)≤p:=Int.le_of_dvd (by omega) e1
 show Nat.gcd p.natAbs a.natAbs=1
 rcases Nat.lt_or_ge (Nat.gcd p.natAbs a.natAbs) 2 with z | z
 ·omega
 ·rcases Int.lt_or_le ((Nat.gcd p.natAbs a.natAbs:Nat):Int) p with y | y
  ·exact absurd e1 (hp.2 _ (by omega) y)
  ·have:((Nat.gcd p.natAbs a.natAbs:Nat):Int)=p:=by omega
   rw[this] at e2
   exact absurd e2 h
theorem euclid {p a b:Int}(hp:Prm p)(h:p∣a*b):p∣a∨p∣b:=by
 by_cases c:p∣a
 ·exact .inl c
 ·right
  have q:=copr hp c
  have h':p.natAbs∣a.natAbs*b.natAbs:=by rw[← Int.natAbs_mul];exact Int.natAbs_dvd_natAbs.mpr h
  exact Int.natAbs_dvd_natAbs.mp (q.dvd_of_dvd_mul_left h')
theorem prm_pow {p r:Int}(hp:Prm p)(hr:Prm r):∀ e:Nat,p∣r^e→p=r
 | 0,h=>by
  have:=Int.le_of_dvd (show (0:Int) < 1 by decide) (show p∣1 by simpa using h)
  have:=hp.1;omega
 | e+1,h=>by
  rw[Int.pow_succ] at h
  rcases euclid hp h with z | z
  ·exact prm_pow hp hr e z
  ·have l:=Int.le_of_dvd (by have:=hr.1;omega) z
   rcases Int.lt_or_le p r with y | y
   ·exact absurd z (hr.2 p hp.1 y)
   ·omega
theorem zCe {p:Int}(hp:Prm p):∀ (ps:List (Int×Int)),(∀ x∈ps,Row x)→p∣Prd ps→∃ x∈ps,x.1=p
 | [],_,h=>by
  have:=Int.le_of_dvd (by decide) (show p∣1 from h)
  have:=hp.1;omega
 | x::r,h,d=>by
  have d':p∣x.2*Prd r:=d
  rcases euclid hp d' with z | z
  ·obtain⟨e,he⟩:=(h x List.mem_cons_self).pw
   rw[he] at z
   exact⟨x,List.mem_cons_self,(prm_pow hp (h x List.mem_cons_self).pr _ z).symm⟩
  ·obtain⟨y,hy,e⟩:=zCe hp r (fun y hy=>h y (List.mem_cons_of_mem _ hy)) z
   exact⟨y,List.mem_cons_of_mem _ hy,e⟩
def DivL (m:Int)(l:List Int):Prop:=l.Nodup∧∀ d,d∈l↔1≤d∧d∣m
theorem pow_ne {p:Int}(hp:2≤p)(k:Nat):p^k≠0:=by have:=zBz hp k;omega
theorem uniq {p d d':Int}(hp:Prm p)(h:¬ p∣d)(h':¬ p∣d'):∀ {j k:Nat},d*p^j=d'*p^k→j=k∧d=d'
 | 0,0,e=>by simpa using e
 | 0,k+1,e=>by
  exfalso;apply h
  rw[Int.pow_zero,Int.mul_one] at e
  rw[e,Int.pow_succ,← Int.mul_assoc];exact Int.dvd_mul_left _ _
 | j+1,0,e=>by
  exfalso;apply h'
  rw[Int.pow_zero,Int.mul_one] at e
  rw[← e,Int.pow_succ,← Int.mul_assoc];exact Int.dvd_mul_left _ _
 | j+1,k+1,e=>by
  rw[Int.pow_succ,Int.pow_succ,← Int.mul_assoc,← Int.mul_assoc] at e
  have p2:=hp.1
  obtain⟨a,b⟩:=uniq hp h h' (Int.eq_of_mul_eq_mul_right (by omega) e)
  exact⟨by omega,b⟩
theorem pow_dvd {p:Int}{j e:Nat}(h:j+1≤e):p^(j+1)∣p^e:=by
 obtain⟨d,rfl⟩:=Nat.exists_eq_add_of_le h
 rw[Int.pow_add p (j+1) d];exact Int.dvd_mul_right _ _
end Pt
namespace Pt
def IsSign (n s:Int):Prop :=
 ((∃ p,Prm p∧p*p∣n)∧s=0)∨((∀ p,Prm p→¬ p*p∣n)∧∃ l:List Int,l.Nodup∧(∀ p,p∈l↔Prm p∧p∣n)∧s=(-1)^l.length)
open Classical in
noncomputable def mu (n:Int):Int:=if h:∃ s,IsSign n s then Classical.choose h else 0
theorem take_snoc {α:Type}{ps:List α}{i:Nat}{x:α}(h:ps[i]?=some x):ps.take (i+1)=ps.take i ++ [x]:=by rw[List.take_add_one,h];rfl
structure LI (n0 n p done:Int):Prop where
 ex:∃ m,n0=m*n∧IsSign m done∧1≤m∧(∀ r,Prm r→r∣m→r < p)
 no:NoDiv n p
theorem sum_app (a b:List Int):(a ++ b).sum=a.sum+b.sum:=List.sum_append_int
structure GI (ps:List (Int×Int))(i:Nat)(l:List Int):Prop where
 dv:DivL (Prd (ps.take i)) l
 sm:(l.map mu).sum=if i=0 then 1 else 0
end Pt
namespace Pt
theorem zDt {ps:List (Int×Int)}{x:Int×Int}(h:x∈ps)(srt:ps.Pairwise fun a b=>a.1 < b.1)(row:∀ y∈ps,Row y):∃ m,Prd ps=x.2*m∧¬ x.1∣m∧1≤m:=by
 obtain⟨a,b,rfl⟩:=List.append_of_mem h
 rw[List.pairwise_append,List.pairwise_cons] at srt
 have ra:∀ y∈a,Row y:=fun y hy=>row y (List.mem_append_left _ hy)
 have rb:∀ y∈b,Row y:=fun y hy=>row y (List.mem_append_right _ (List.mem_cons_of_mem _ hy))
 have rx:=row x h
 refine⟨Prd a*Prd b,?_,fun z=>?_,?_⟩
 ·rw[zAh];simp only [Prd];rw[Int.mul_left_comm]
 ·rcases euclid rx.pr z with z | z
  ·obtain⟨y,hy,e⟩:=zCe rx.pr a ra z
   have:=srt.2.2 y hy x List.mem_cons_self
   omega
  ·obtain⟨y,hy,e⟩:=zCe rx.pr b rb z
   have:=srt.2.1.1 y hy
   omega
 ·have:=Int.mul_le_mul (zCr a ra) (zCr b rb) (by omega) (by have:=zCr a ra;omega)
  omega
theorem jX {n:Int}{ps:List (Int×Int)}(h:Parts n ps)(x:Int×Int):x∈ps↔Prm x.1∧x.1∣n∧IsPow x.1 x.2∧x.2∣n∧¬ x.2*x.1∣n:=by
 constructor
 ·intro hx
  have rx:=h.row x hx
  obtain⟨m,e,nd,m1⟩:=zDt hx h.srt h.row
  rw[h.prd] at e
  obtain⟨k,hk⟩:=rx.pw
  have dq:x.2∣n:=⟨m,e⟩
  refine⟨rx.pr,Int.dvd_trans ?_ dq,rx.pw,dq,fun z=>nd ?_⟩
  ·rw[hk,Int.pow_succ];exact Int.dvd_mul_left _ _
  ·rw[e] at z
   exact Int.dvd_of_mul_dvd_mul_left (by have:=zFc rx;omega) z
 ·rintro⟨pr,d,⟨k,hk⟩,dq,nd⟩
  rw[← h.prd] at d
  obtain⟨y,hy,e⟩:=zCe pr ps h.row d
  obtain⟨m,e2,nm,m1⟩:=zDt hy h.srt h.row
  rw[h.prd] at e2
  obtain⟨j,hj⟩:=(h.row y hy).pw
  rw[e] at hj nm
  have p2:=pr.1
  have le:∀ {a b:Nat}{c:Int},¬ x.1∣c→x.1^a∣x.1^b*c→a≤b:=by
   intro a b c hc hd
   rcases Nat.lt_or_ge b a with z | z
   ·obtain⟨t,rfl⟩:=Nat.exists_eq_add_of_le z
    rw[show b+1+t=b+(t+1) by omega,Int.pow_add] at hd
    have:=Int.dvd_of_mul_dvd_mul_left (pow_ne p2 b) hd
    exact absurd (Int.dvd_trans ⟨x.1^t,by rw[Int.pow_succ,Int.mul_comm]⟩ this) hc
   ·exact z
  have k1:k+1≤j+1:=le nm (by rw[← hj,← e2,← hk];exact dq)
  have k2:¬ k+1+1≤j+1:=fun z=>nd (by
   rw[hk,← Int.pow_succ,e2,hj]
   exact Int.dvd_trans (pow_dvd z) (Int.dvd_mul_right _ _))
  have:k=j:=by omega
  have q:x=y:=Prod.ext e.symm (by rw[hk,hj,this])
  rw[q];exact hy
theorem pairs_eq:∀ {a b:List (Int×Int)},a.Pairwise (fun x y=>x.1 < y.1)→b.Pairwise (fun x y=>x.1 < y.1)→(∀ x,x∈a↔x∈b)→a=b
 | [],[],_,_,_=>rfl
 | [],y::b,_,_,h=>by have:=(h y).mpr List.mem_cons_self;cases this
 | x::a,[],_,_,h=>by have:=(h x).mp List.mem_cons_self;cases this
 | x::a,y::b,ha,hb,h=>by
  rw[List.pairwise_cons] at ha hb
  have e:x=y:=by
   have h1:=(h x).mp List.mem_cons_self
   have h2:=(h y).mpr List.mem_cons_self
   rcases List.mem_cons.mp h1 with e | e
   ·exact e
   ·rcases List.mem_cons.mp h2 with f | f
    ·exact f.symm
    ·have:=hb.1 x e;have:=ha.1 y f;omega
  subst e
  congr 1
  refine pairs_eq ha.2 hb.2 fun z=>?_
  have q:=h z
  rw[List.mem_cons,List.mem_cons] at q
  constructor
  ·intro hz
   rcases q.mp (.inr hz) with e | e
   ·subst e;have:=ha.1 z hz;omega
   ·exact e
  ·intro hz
   rcases q.mpr (.inr hz) with e | e
   ·subst e;have:=hb.1 z hz;omega
   ·exact e
theorem parts_one {n:Int}{a b:List (Int×Int)}(ha:Parts n a)(hb:Parts n b):a=b:=pairs_eq ha.srt hb.srt fun x=>by rw[jX ha,jX hb]
def cnt (n:Nat):Nat→Nat
 | 0=>0
 | d+1=>cnt n d+(bif Nat.beq (n%(d+1)) 0 then (bif Nat.blt ((d+1)*(d+1)) n then 2 else bif Nat.beq ((d+1)*(d+1)) n then 1 else 0) else 0)
def rt (n:Nat):Nat→Nat
 | 0=>0
 | d+1=>bif Nat.ble ((d+1)*(d+1)) n then d+1 else rt n d
end Pt
namespace Eh
def G (a b:Int):Int:=(Int.gcd a b:Nat)
def ab (a:Int):Int:=if a < 0 then -a else a
theorem ab_nat (a:Int):ab a=(a.natAbs:Int):=by unfold ab;split <;> omega
theorem G_ab (a b:Int):G (ab a) (ab b)=G a b:=by
 unfold G;rw[ab_nat,ab_nat]
 simp [Int.gcd]
theorem G_nonneg (a b:Int):0≤G a b:=Int.natCast_nonneg _
theorem start (a b:Int):0≤ab a∧0≤ab b∧G (ab a) (ab b)=G a b:=by
 refine⟨?_,?_,G_ab a b⟩ <;> (rw[ab_nat];omega)
theorem turn {a b g s:Int}(hg:0≤g)(hs:0≤s)(h:G g s=G a b)(ne:¬ s=0) :
  0≤s∧0≤Int.fmod g s∧G s (Int.fmod g s)=G a b:=by
 have e:=Int.fmod_eq_emod_of_nonneg g hs
 refine⟨hs,?_,?_⟩
 ·rw[e];exact Int.emod_nonneg _ ne
 ·rw[e,← h]
  unfold G
  congr 1
  obtain⟨m,rfl⟩:=Int.eq_ofNat_of_zero_le hg
  obtain⟨n,rfl⟩:=Int.eq_ofNat_of_zero_le hs
  rw[← Int.natCast_emod]
  show Nat.gcd n (m%n)=Nat.gcd m n
  rw[Nat.gcd_comm n,← Nat.gcd_rec,Nat.gcd_comm]
theorem less {g s:Int}(hs:0≤s)(ne:¬ s=0):(Int.fmod g s).toNat < s.toNat:=by
 have e:=Int.fmod_eq_emod_of_nonneg g hs
 have:=Int.emod_lt_of_pos g (show 0 < s by omega)
 have:=Int.emod_nonneg g ne
 omega
theorem out {a b g s:Int}(hg:0≤g)(h:G g s=G a b)(z:s=0):g=G a b:=by
 subst z
 unfold G at *
 have:Int.gcd g 0=g.natAbs:=Int.gcd_zero_right g
 omega
end Eh
namespace Eh
theorem turnE {a b g s:Int}(hg:0≤g)(hs:0≤s)(h:G g s=G a b)(ne:¬ s=0):0≤g%s∧G s (g%s)=G a b∧(g%s).toNat < s.toNat:=by
 have t:=turn hg hs h ne
 have l:=less (g:=g) hs ne
 rw[Int.fmod_eq_emod_of_nonneg g hs] at t l
 exact⟨t.2.1,t.2.2,l⟩
end Eh
namespace Eh
structure Bk (st n r c lr lc:Int):Prop where
 g:G r lr=G st n
 x:∃ x,r=st*c+n*x
 y:∃ y,lr=st*lc+n*y
theorem bk0 {st n:Int}(hn:0 < n):0≤n∧0≤Int.fmod st n∧Int.fmod st n < n+1∧Bk st n n 0 (Int.fmod st n) 1:=by
 have e:=Int.fmod_eq_emod_of_nonneg st (Int.le_of_lt hn)
 have h0:=Int.emod_nonneg st (show n≠0 by omega)
 have h1:=Int.emod_lt_of_pos st hn
 refine⟨by omega,by omega,by omega,?_,⟨1,?_⟩,⟨-(st/n),?_⟩⟩
 ·rw[e];unfold G;congr 1
  have d:=Int.emod_add_mul_ediv st n
  have q:Int.gcd n (st%n+n*(st/n))=Int.gcd n (st%n):=Int.gcd_add_mul_left_right ..
  rw[d] at q
  rw[← q,Int.gcd_comm]
 ·simp
 ·rw[e,Int.mul_neg,Int.mul_one]
  have:=Int.emod_add_mul_ediv st n
  omega
theorem bkt {st n r c lr lc:Int}(hr:0≤r)(h0:0≤lr)(ne:¬ lr=0)(h:Bk st n r c lr lc) :
  0≤lr∧0≤r-Int.fdiv r lr*lr∧Bk st n lr lc (r-Int.fdiv r lr*lr) (c-Int.fdiv r lr*lc):=by
 have e:=Int.fdiv_eq_ediv_of_nonneg r h0
 rw[e]
 have m:r-r/lr*lr=r%lr:=by
  have:=Int.emod_add_mul_ediv r lr
  rw[Int.mul_comm] at this;omega
 rw[m]
 obtain⟨hg,⟨x,hx⟩,⟨y,hy⟩⟩:=h
 have t:=turn hr h0 hg ne
 have f:=Int.fmod_eq_emod_of_nonneg r h0
 rw[f] at t
 refine⟨h0,t.2.1,t.2.2,⟨y,hy⟩,⟨x-r/lr*y,?_⟩⟩
 rw[← m,Int.mul_sub,Int.mul_sub]
 have a1:st*(r/lr*lc)=r/lr*(st*lc):=by rw[Int.mul_left_comm]
 have a2:n*(r/lr*y)=r/lr*(n*y):=by rw[Int.mul_left_comm]
 have a3:r/lr*lr=r/lr*(st*lc)+r/lr*(n*y):=by rw[← Int.mul_add,← hy]
 omega
theorem bkless {r lr:Int}(h0:0≤lr)(ne:¬ lr=0):(r-Int.fdiv r lr*lr).toNat < lr.toNat:=by
 have e:=Int.fdiv_eq_ediv_of_nonneg r h0
 rw[e]
 have m:r-r/lr*lr=r%lr:=by
  have:=Int.emod_add_mul_ediv r lr
  rw[Int.mul_comm] at this;omega
 rw[m]
 have:=Int.emod_lt_of_pos r (show 0 < lr by omega)
 have:=Int.emod_nonneg r ne
 omega
theorem bko {st n r c lr lc:Int}(hn:0 < n)(hr:0≤r)(h:Bk st n r c lr lc)(z:lr=0)(g1:G st n=1) :
  1≤Int.fmod (c-1) n+1∧Int.fmod (c-1) n+1≤n∧Int.fmod (st*(Int.fmod (c-1) n+1)-1) n=0:=by
 obtain⟨hg,⟨x,hx⟩,_⟩:=h
 have r1:r=1:=by rw[← g1];exact out hr hg z
 have e:=Int.fmod_eq_emod_of_nonneg (c-1) (Int.le_of_lt hn)
 have h0:=Int.emod_nonneg (c-1) (show n≠0 by omega)
 have h1:=Int.emod_lt_of_pos (c-1) hn
 refine⟨by omega,by omega,?_⟩
 rw[Int.fmod_eq_emod_of_nonneg _ (Int.le_of_lt hn),e]
 apply Int.emod_eq_zero_of_dvd
 have d:=Int.emod_add_mul_ediv (c-1) n
 refine⟨-x-st*((c-1)/n),?_⟩
 have:(c-1)%n+1=c-n*((c-1)/n):=by omega
 rw[this,Int.mul_sub,Int.mul_sub,Int.mul_neg]
 have a1:st*(n*((c-1)/n))=n*(st*((c-1)/n)):=by rw[Int.mul_left_comm]
 omega
end Eh
namespace Eh
theorem bk0E {st n:Int}(hn:0 < n):0≤st%n∧st%n < n∧Bk st n n 0 (st%n) 1:=by
 have h:=bk0 (st:=st) hn
 rw[Int.fmod_eq_emod_of_nonneg st (Int.le_of_lt hn)] at h
 exact⟨h.2.1,Int.emod_lt_of_pos st hn,h.2.2.2⟩
theorem bktE {st n r c lr lc:Int}(hr:0≤r)(h0:0≤lr)(ne:¬ lr=0)(h:Bk st n r c lr lc) :
  0≤r-r/lr*lr∧(r-r/lr*lr) < lr∧(r-r/lr*lr).toNat < lr.toNat∧Bk st n lr lc (r-r/lr*lr) (c-r/lr*lc):=by
 have t:=bkt hr h0 ne h
 have l:=bkless (r:=r) h0 ne
 rw[Int.fdiv_eq_ediv_of_nonneg r h0] at t l
 refine⟨t.2.1,by omega,l,t.2.2⟩
theorem div_le {r lr:Int}(hr:0≤r)(h0:0 < lr):0≤r/lr∧r/lr≤r:=⟨Int.ediv_nonneg hr (by omega),Int.ediv_le_self _ hr⟩
theorem bkoE {st n r c lr lc:Int}(hn:0 < n)(hr:0≤r)(h:Bk st n r c lr lc)(z:lr=0)(g1:G st n=1) :
  1≤(c-1)%n+1∧(c-1)%n+1≤n∧(st*((c-1)%n+1)-1)%n=0:=by
 have o:=bko hn hr h z g1
 rw[Int.fmod_eq_emod_of_nonneg (c-1) (Int.le_of_lt hn),Int.fmod_eq_emod_of_nonneg _ (Int.le_of_lt hn)] at o
 exact o
def us (n:Int)(i:Nat):List Int:=((List.range i).map fun (j:Nat)=>(1+(j:Int))).filter fun k=>decide (G k n=1)
theorem us_succ (n:Int)(i:Nat):us n (i+1)=us n i ++ (if G (1+(i:Int)) n=1 then [1+(i:Int)] else []):=by
 unfold us
 rw[List.range_succ,List.map_append,List.filter_append]
 congr 1
 by_cases h:G (1+(i:Int)) n=1 <;> simp [h]
theorem us_len (n:Int)(i:Nat):(us n i).length≤i:=by
 unfold us
 refine Nat.le_trans (List.length_filter_le _ _) ?_
 simp
end Eh
namespace Ld
def tab (n:Nat)(F:Int→Int):List Int:=(List.range n).map fun x:Nat=>F x
theorem tab_len (n:Nat)(F:Int→Int):(tab n F).length=n:=by simp [tab]
theorem at_tab {n:Nat}{F:Int→Int}(hn:0 < n)(hF:Per n F)(x:Int):at' (tab n F) x=F x:=by
 have e:=zAz (a:=tab n F) (x:=x) (by rw[tab_len];exact hn)
 rw[tab_len] at e
 unfold tab at e
 rw[List.getElem?_map,List.getElem?_range (zBg hn x)] at e
 have e':=Option.some.inj e
 unfold tab
 rw[← e']
 show F (((x%n).toNat:Nat):Int)=_
 rw[zDu hn]
 exact hF.md x
theorem ext_all {a b:List Int}{n:Nat}(ha:a.length=n)(hb:b.length=n)(h:∀ x:Int,at' a x=at' b x):a=b:=ext (ha.trans hb.symm) fun k _=>h k
theorem bez {st n:Int}:∀ (m:Nat)(r c lr lc:Int),lr.toNat=m→0≤r→0≤lr→Eh.Bk st n r c lr lc→∃ c' x,Eh.G st n=st*c'+n*x:=by
 intro m
 induction m using Nat.strongRecOn with
 | ind m ih =>
  intro r c lr lc hm hr h0 h
  by_cases z:lr=0
  ·obtain⟨hg,⟨x,hx⟩,_⟩:=h
   have:=Eh.out hr hg z
   exact⟨c,x,by rw[← this];exact hx⟩
  ·have t:=Eh.bktE hr h0 z h
   exact ih _ (by rw[← hm];exact t.2.2.1) _ _ _ _ rfl h0 t.1 t.2.2.2
theorem zCb {st:Int}{n:Nat}(hn:0 < n)(g:Eh.G st n=1):∃ v,(st*v)%n=1%n:=by
 have b:=Eh.bk0E (st:=st) (n:=n) (by omega)
 obtain⟨c,x,e⟩:=bez _ _ _ _ _ rfl (by omega) b.1 b.2.2
 refine⟨c,?_⟩
 rw[g] at e
 rw[e,Int.add_mul_emod_self_left]
theorem zDj {st:Int}{n:Nat}{v:Int}(h:(st*v)%n=1%n):Eh.G st n=1:=by
 unfold Eh.G
 have d1:((Int.gcd st n:Nat):Int)∣st:=Int.gcd_dvd_left ..
 have d2:((Int.gcd st n:Nat):Int)∣n:=Int.gcd_dvd_right ..
 have d3:(n:Int)∣st*v-1:=Int.dvd_of_emod_eq_zero (Int.emod_eq_emod_iff_emod_sub_eq_zero.mp h)
 have d4:((Int.gcd st n:Nat):Int)∣1:=by
  have:=Int.dvd_sub (Int.dvd_trans d1 (Int.dvd_mul_right st v)) (Int.dvd_trans d2 d3)
  rwa [show st*v-(st*v-1)=1 by omega] at this
 have:=Int.le_of_dvd (by decide) d4
 have p:(0:Int)≤((Int.gcd st n:Nat):Int):=Int.natCast_nonneg _
 have nz:((Int.gcd st n:Nat):Int)≠0:=fun z=>by rw[z] at d4;have:=Int.zero_dvd.mp d4;omega
 omega
theorem inv_mul {s t v w:Int}{n:Nat}(h:(s*v)%n=1%n)(g:(t*w)%n=1%n):(s*t*(v*w))%n=1%n:=by
 have:s*t*(v*w)=(s*v)*(t*w):=by rw[Int.mul_assoc,Int.mul_left_comm t v w,← Int.mul_assoc]
 rw[this,Int.mul_emod,h,g,← Int.mul_emod,Int.one_mul]
theorem fill1 {φ:Int→Int}{a o:List Int}{n i:Nat}(hl:o.length=n)(hn:0 < n)(inj:∀ j k:Nat,j < n→k < n→φ j%n=φ k%n→j=k)(hi:i < n)(h:∀ k:Nat,k < i→at' o (φ k)=at' a k) :
  ∀ k:Nat,k < i+1→at' (o.set (φ i%n).toNat (at' a i)) (φ k)=at' a k:=fun k hk=>by
 rw[at_set hl hn]
 by_cases e:φ k%n=φ i%n
 ·rw[if_pos e,inj k i (by omega) hi e]
 ·rw[if_neg e]
  have:k≠i:=fun z=>e (by rw[z])
  exact h k (by omega)
def turned (a:List Int)(far:Int):List Int:=tab a.length fun x=>at' a (x-far)
theorem zFf (a:List Int)(far:Int):(turned a far).length=a.length:=tab_len _ _
theorem per_sub {a:List Int}{n:Nat}(h:a.length=n)(c:Int):Per n fun x=>at' a (x-c):=fun x y e=>vG h _ _ (by rw[Int.sub_emod,e,← Int.sub_emod])
theorem at_turned {a:List Int}(hn:0 < a.length)(far x:Int):at' (turned a far) x=at' a (x-far):=at_tab hn (per_sub rfl far) x
structure Skp (n:Nat)(st:Int)(a o:List Int):Prop where
 la:a.length=n
 lo:o.length=n
 at_:∀ x:Int,at' o (x*st)=at' a x
theorem inj_skip {n:Nat}(hn:0 < n){st v:Int}(hv:(st*v)%n=1%n)(j k:Nat)(hj:j < n)(hk:k < n)(e:((j:Int)*st)%n=((k:Int)*st)%n):j=k:=by
 have one:∀ x:Int,(x*st*v)%n=x%n:=fun x=>by rw[Int.mul_assoc,Int.mul_emod,hv,← Int.mul_emod,Int.mul_one]
 have:=jC v e
 rw[one,one,Int.emod_eq_of_lt (by omega) (by omega),Int.emod_eq_of_lt (by omega) (by omega)] at this
 omega
theorem skp_end {a o:List Int}{n:Nat}(hn:0 < n)(ha:a.length=n)(ho:o.length=n){st:Int}(h:∀ k:Nat,k < n→at' o ((k:Int)*st)=at' a k):Skp n st a o :=
 ⟨ha,ho,fun x=>by
  have e:=h (x%n).toNat (zBg hn _)
  rw[zDu hn,(vG ha).md] at e
  rw[← e]
  exact vG ho _ _ (jC st (Int.emod_emod_of_dvd x (Int.dvd_refl _)).symm)⟩
theorem Skp.val {n:Nat}{st v:Int}{a o:List Int}(h:Skp n st a o)(hv:(st*v)%n=1%n)(y:Int):at' o y=at' a (y*v):=by
 rw[← h.at_]
 refine vG h.lo _ _ ?_
 rw[Int.mul_assoc,Int.mul_comm v st,Int.mul_emod,hv,← Int.mul_emod,Int.mul_one]
theorem Skp.uniq {n:Nat}{st v:Int}{a o p:List Int}(h:Skp n st a o)(g:Skp n st a p)(hv:(st*v)%n=1%n):o=p :=
 ext_all h.lo g.lo fun x=>by rw[h.val hv,g.val hv]
theorem Skp.conv {n:Nat}(hn:0 < n){s v:Int}{a b l r:List Int}(h:Skp n s a l)(g:Skp n s b r)(hv:(s*v)%n=1%n):Skp n s (conv a b) (conv l r) :=
 ⟨by rw[zDm,g.la],by rw[zDm,g.lo],fun x=>by
  rw[at_conv g.lo hn,at_conv g.la hn]
  have p:Per n fun j=>at' l j*at' r (x*s-j):=per_mul (vG h.lo) (zDx (vG g.lo) _)
  rw[← S_unit hn p hv]
  refine wL fun j _=>?_
  show at' l (j*s)*at' r (x*s-j*s)=_
  rw[← Int.sub_mul,h.at_,g.at_]⟩
theorem Skp.plus {n:Nat}(hn:0 < n){s:Int}{a b l r:List Int}(h:Skp n s a l)(g:Skp n s b r):Skp n s (plus a b) (plus l r) :=
 ⟨by rw[jM (h.la.trans g.la.symm),h.la],by rw[jM (h.lo.trans g.lo.symm),h.lo],fun x=>by
  rw[at_plus (h.lo.trans g.lo.symm) (by rw[h.lo];exact hn),at_plus (h.la.trans g.la.symm) (by rw[h.la];exact hn),h.at_,g.at_]⟩
theorem Skp.turned {n:Nat}(hn:0 < n){s:Int}{a l:List Int}(h:Skp n s a l)(far:Int):Skp n s (turned a far) (turned l (far*s)) :=
 ⟨by rw[zFf,h.la],by rw[zFf,h.lo],fun x=>by
  rw[at_turned (by rw[h.lo];exact hn),at_turned (by rw[h.la];exact hn),← Int.sub_mul,h.at_]⟩
theorem bd_skp {B n:Nat}{st v:Int}{a o:List Int}(h:Skp n st a o)(hv:(st*v)%n=1%n)(b:Bd B a):Bd B o:=bd_of fun k _=>by rw[h.val hv];exact at_bd b _
theorem us_mem {n:Int}{i:Nat}{k:Int}(h:k∈Eh.us n i):1≤k∧k≤i∧Eh.G k n=1:=by
 unfold Eh.us at h
 obtain⟨h1,h2⟩:=List.mem_filter.mp h
 obtain⟨j,hj,rfl⟩:=List.mem_map.mp h1
 have:=List.mem_range.mp hj
 exact⟨by omega,by omega,of_decide_eq_true h2⟩
end Ld
namespace Ld
def finF (a:List Int)(q:Nat)(x:Int):Int:=if x%q=0 then at' a (x/q) else 0
def fin (a:List Int)(q:Nat):List Int:=tab (q*a.length) (finF a q)
theorem j6 (a:List Int)(q:Nat):(fin a q).length=q*a.length:=tab_len _ _
theorem div_mod {n q:Nat}(hq:0 < q){x y:Int}(h:x%((q*n:Nat):Int)=y%((q*n:Nat):Int)):x%q=y%q∧(x/q)%n=(y/q)%n:=by
 have d:((q:Nat):Int)∣((q*n:Nat):Int):=by rw[Int.natCast_mul];exact Int.dvd_mul_right _ _
 refine⟨?_,?_⟩
 ·rw[← Int.emod_emod_of_dvd x d,h,Int.emod_emod_of_dvd y d]
 ·have e:((q*n:Nat):Int)∣x-y:=Int.dvd_of_emod_eq_zero (Int.emod_eq_emod_iff_emod_sub_eq_zero.mp h)
  obtain⟨t,ht⟩:=e
  rw[Int.natCast_mul] at ht
  have ex:x=y+q*(n*t):=by rw[← Int.mul_assoc];omega
  rw[ex,Int.add_mul_ediv_left _ _ (by omega),Int.add_mul_emod_self_left]
theorem per_fin {a:List Int}{q n:Nat}(ha:a.length=n)(hq:0 < q):Per (q*n) (finF a q):=fun x y h=>by
 have d:=div_mod hq h
 unfold finF
 rw[d.1,vG ha _ _ d.2]
theorem at_fin {a:List Int}{q:Nat}(hn:0 < a.length)(hq:0 < q)(x:Int):at' (fin a q) x=if x%q=0 then at' a (x/q) else 0:=at_tab (Nat.mul_pos hq hn) (per_fin rfl hq) x
theorem inv_down {st v:Int}{n q:Nat}(h:(st*v)%((q*n:Nat):Int)=1%((q*n:Nat):Int)):(st*v)%n=1%n∧(st*v)%q=1%q:=by
 have d1:((n:Nat):Int)∣((q*n:Nat):Int):=by rw[Int.natCast_mul];exact Int.dvd_mul_left _ _
 have d2:((q:Nat):Int)∣((q*n:Nat):Int):=by rw[Int.natCast_mul];exact Int.dvd_mul_right _ _
 exact⟨by rw[← Int.emod_emod_of_dvd _ d1,h,Int.emod_emod_of_dvd _ d1],by rw[← Int.emod_emod_of_dvd _ d2,h,Int.emod_emod_of_dvd _ d2]⟩
theorem Skp.fin {n q:Nat}(hn:0 < n)(hq:0 < q){st v:Int}{a o:List Int}(h:Skp n st a o)(hv:(st*v)%((q*n:Nat):Int)=1%((q*n:Nat):Int)):Skp (q*n) st (fin a q) (fin o q) :=
 ⟨by rw[j6,h.la],by rw[j6,h.lo],fun x=>by
  rw[at_fin (by rw[h.lo];exact hn) hq,at_fin (by rw[h.la];exact hn) hq]
  have iq:=(inv_down hv).2
  by_cases z:x%q=0
  ·obtain⟨y,rfl⟩:=Int.dvd_of_emod_eq_zero z
   rw[if_pos z,if_pos (by rw[Int.mul_assoc,Int.mul_emod_right]),Int.mul_assoc,Int.mul_ediv_cancel_left _ (by omega),Int.mul_ediv_cancel_left _ (by omega),h.at_]
  ·rw[if_neg z,if_neg fun w=>z ?_]
   have:(x*st*v)%q=x%q:=by rw[Int.mul_assoc,Int.mul_emod,iq,← Int.mul_emod,Int.mul_one]
   rw[← this,Int.mul_emod,w,Int.zero_mul,Int.zero_emod]⟩
theorem ffill1 {a o:List Int}{n N q i:Nat}(ho:o.length=N)(hN:N=q*n)(hq:0 < q)(hi:i < n)(h1:∀ k:Nat,k < i→at' o ((q:Int)*k)=at' a k)(h2:∀ x:Int,(∀ k:Nat,k < i→x%N≠q*k)→at' o x=0) :
  (∀ k:Nat,k < i+1→at' (o.set (((q:Int)*i)%N).toNat (at' a i)) ((q:Int)*k)=at' a k)∧(∀ x:Int,(∀ k:Nat,k < i+1→x%N≠q*k)→at' (o.set (((q:Int)*i)%N).toNat (at' a i)) x=0):=by
 have hNp:0 < N:=by rw[hN];exact Nat.mul_pos hq (by omega)
 have lt:∀ k:Nat,k < n→((q:Int)*k)%N=q*k:=fun k hk=>by
  refine Int.emod_eq_of_lt (Int.mul_nonneg (by omega) (by omega)) ?_
  rw[hN,Int.natCast_mul]
  exact Int.mul_lt_mul_of_pos_left (by omega) (by omega)
 refine⟨fun k hk=>?_,fun x hx=>?_⟩
 ·rw[at_set ho hNp]
  by_cases e:((q:Int)*k)%N=((q:Int)*i)%N
  ·rw[if_pos e]
   rw[lt k (by omega),lt i hi] at e
   have:=Int.eq_of_mul_eq_mul_left (by omega) e
   rw[show k=i by omega]
  ·rw[if_neg e]
   have:k≠i:=fun z=>e (by rw[z])
   exact h1 k (by omega)
 ·rw[at_set ho hNp,if_neg (by rw[lt i hi];exact hx i (by omega))]
  exact h2 x fun k hk=>hx k (by omega)
theorem ffill_end {a o:List Int}{n q:Nat}(ha:a.length=n)(hn:0 < n)(hq:0 < q)(ho:o.length=q*n)(h1:∀ k:Nat,k < n→at' o ((q:Int)*k)=at' a k)(h2:∀ x:Int,(∀ k:Nat,k < n→x%((q*n:Nat):Int)≠q*k)→at' o x=0):o=fin a q:=by
 have hNp:0 < q*n:=Nat.mul_pos hq hn
 refine ext_all ho (by rw[j6,ha]) fun x=>?_
 rw[at_fin (by omega) hq]
 have d:=div_mod (n:=n) hq (show x%((q*n:Nat):Int)=(x%((q*n:Nat):Int))%((q*n:Nat):Int) from (Int.emod_emod_of_dvd x (Int.dvd_refl _)).symm)
 have y0:=Int.emod_nonneg x (show ((q*n:Nat):Int)≠0 by omega)
 have y1:=Int.emod_lt_of_pos x (show (0:Int) < ((q*n:Nat):Int) by omega)
 have px:=(vG ho).md x
 rw[d.1,vG ha _ _ d.2,← px]
 generalize x%((q*n:Nat):Int)=y at y0 y1
 by_cases z:y%q=0
 ·obtain⟨k,rfl⟩:=Int.dvd_of_emod_eq_zero z
  have k0:0≤k:=by
   rcases Int.lt_or_le k 0 with w | w
   ·have:=Int.mul_neg_of_pos_of_neg (show (0:Int) < q by omega) w;omega
   ·exact w
  have k1:k < n:=by
   rw[Int.natCast_mul] at y1
   exact Int.lt_of_mul_lt_mul_left y1 (by omega)
  rw[if_pos z,Int.mul_ediv_cancel_left _ (by omega)]
  have:=h1 k.toNat (by omega)
  rwa [Int.toNat_of_nonneg k0] at this
 ·rw[if_neg z]
  refine h2 y fun k hk e=>z ?_
  rw[Int.emod_eq_of_lt y0 y1] at e
  rw[e,Int.mul_emod_right]
theorem bd_fin {B:Nat}{a:List Int}(h:Bd B a)(hn:0 < a.length){q:Nat}(hq:0 < q):Bd B (fin a q):=bd_of fun k _=>by
 rw[at_fin hn hq]
 split
 ·exact at_bd h _
 ·exact Nat.zero_le _
end Ld
namespace Pl
theorem qend {m p:Int}(hm:1≤m)(hp:2≤p):∀ (k:Nat)(q:Int),(m-q).toNat=k→Pt.QInv m p q→∃ q',Pt.QEnd m p q':=by
 intro k
 induction k using Nat.strongRecOn with
 | ind k ih =>
  intro q hk h
  by_cases d:m%(q*p)=0
  ·have h1:=Pt.q1 hp h d
   have g:=Pt.q_grow hp h.pos
   have l:=Pt.q_le hm h1
   exact ih _ (by omega) _ rfl h1
  ·exact⟨q,Pt.q2 h d⟩
theorem parts_ex {n:Int}(hn:1≤n):∃ ps,Pt.Parts n ps:=by
 have go:∀ (k:Nat)(ps:List (Int×Int))(left p:Int),(n+2-p).toNat=k→Pt.PInv n ps left p→2≤p→1≤left→left≤n→∃ ps,Pt.Parts n ps:=by
  intro k
  induction k using Nat.strongRecOn with
  | ind k ih =>
   intro ps left p hk h p2 l1 ln
   by_cases c:p*p≤left
   ·have pl:p≤left:=by have:=Int.mul_le_mul_of_nonneg_left (show 1≤p by omega) (show 0≤p by omega);omega
    obtain⟨q,hq⟩:=qend l1 p2 _ 1 rfl (Pt.q0 left p)
    by_cases g:q > 1
    ·have lp:=Pt.left_pos l1 hq.inv.dv hq.inv.pos
     exact ih _ (by omega) _ _ (p+1) rfl (Pt.turnA p2 h hq g) (by omega) lp.1 (by omega)
    ·exact ih _ (by omega) _ _ (p+1) rfl (Pt.turnB h hq g) (by omega) l1 ln
   ·by_cases g:left > 1
    ·exact⟨_,Pt.endA p2 h c g⟩
    ·exact⟨_,Pt.endB h l1 g⟩
 exact go _ [] n 2 rfl (Pt.start n) (by omega) hn (Int.le_refl _)
def ds (n:Nat):Nat→List Int
 | 0=>[]
 | k+1=>ds n k ++ (if ((k:Int)+1)∣(n:Int) then [(k:Int)+1] else [])
noncomputable def pv (n:Nat)(far:Int):Int:=(((ds n n).filter fun d=>decide (d∣far)).map fun d=>d*Pt.mu (n/d)).sum
noncomputable def mk (n:Nat)(d:Int):Int×Int:=(d,d*Pt.mu (n/d))
end Pl
namespace Rs
open Pt (Parts Prd Prm Row IsPow)
theorem cdvd {a b t:Int}(h:Nat.Coprime a.natAbs b.natAbs)(ha:a∣t)(hb:b∣t):a*b∣t:=by
 rw[← Int.natAbs_dvd_natAbs] at ha hb ⊢
 rw[Int.natAbs_mul]
 exact Nat.Coprime.mul_dvd_of_dvd_of_dvd h ha hb
theorem zBs {a b t:Int}(h:Nat.Coprime a.natAbs b.natAbs)(hd:a∣b*t):a∣t:=by
 rw[← Int.natAbs_dvd_natAbs] at hd ⊢
 rw[Int.natAbs_mul] at hd
 exact Nat.Coprime.dvd_of_dvd_mul_left h hd
theorem cop_pow {p m:Int}(hp:Prm p)(h:¬ p∣m)(e:Nat):Nat.Coprime (p^e).natAbs m.natAbs:=by
 rw[Int.natAbs_pow]
 exact Nat.Coprime.pow_left e (Pt.copr hp h)
theorem wK {n:Int}{ps:List (Int×Int)}(hp:Parts n ps){x:Int×Int}(hx:x∈ps):∃ m,n=x.2*m∧n/x.2=m∧¬ x.1∣m∧2≤x.2∧x.1∣x.2∧Nat.Coprime x.2.natAbs m.natAbs:=by
 obtain⟨m,e,nd,_⟩:=Pt.zDt hx hp.srt hp.row
 rw[hp.prd] at e
 have row:=hp.row x hx
 obtain⟨k,hk⟩:=row.pw
 have l:=Pt.zFc row
 refine⟨m,e,by rw[e];exact Int.mul_ediv_cancel_left _ (by omega),nd,by omega,by rw[hk,Int.pow_succ];exact Int.dvd_mul_left _ _,?_⟩
 rw[hk];exact cop_pow row.pr nd _
theorem G_part {n:Int}{ps:List (Int×Int)}(hp:Parts n ps){x:Int×Int}(hx:x∈ps):Eh.G (n/x.2) x.2=1:=by
 obtain⟨m,_,e,_,_,_,c⟩:=wK hp hx
 rw[e]
 unfold Eh.G Int.gcd
 rw[Nat.gcd_comm]
 have:Nat.gcd x.2.natAbs m.natAbs=1:=c
 rw[this];rfl
theorem cop_xy {x y:Int×Int}(hx:Row x)(hy:Row y)(ne:x.1≠y.1):Nat.Coprime x.2.natAbs y.2.natAbs:=by
 obtain⟨k,hk⟩:=hx.pw
 obtain⟨j,hj⟩:=hy.pw
 rw[hk]
 refine cop_pow hx.pr (fun d=>ne ?_) _
 rw[hj] at d
 exact Pt.prm_pow hx.pr hy.pr _ d
theorem all_dvd {t:Int}:∀ {ps:List (Int×Int)},(∀ x∈ps,Row x)→ps.Pairwise (fun a b=>a.1 < b.1)→(∀ x∈ps,x.2∣t)→Prd ps∣t
 | [],_,_,_=>Int.one_dvd t
 | x::r,row,srt,h=>by
  have ⟨s1,s2⟩:=List.pairwise_cons.mp srt
  have ih:=all_dvd (fun y hy=>row y (List.mem_cons_of_mem _ hy)) s2 (fun y hy=>h y (List.mem_cons_of_mem _ hy))
  have cop:∀ {l:List (Int×Int)},(∀ y∈l,Row y∧x.1≠y.1)→Nat.Coprime x.2.natAbs (Prd l).natAbs:=by
   intro l
   induction l with
   | nil=>intro _;simp [Prd]
   | cons y l ih =>
    intro hl
    have a:=hl y List.mem_cons_self
    have b:=ih fun z hz=>hl z (List.mem_cons_of_mem _ hz)
    simp only [Prd]
    rw[Int.natAbs_mul]
    exact Nat.Coprime.mul_right (cop_xy (row x List.mem_cons_self) a.1 a.2) b
  exact cdvd (cop fun y hy=>⟨row y (List.mem_cons_of_mem _ hy),by have:=s1 y hy;omega⟩) (h x List.mem_cons_self) ih
theorem cross {n:Int}{ps:List (Int×Int)}(hp:Parts n ps){x y:Int×Int}(hx:x∈ps)(hy:y∈ps)(ne:x.1≠y.1):x.2∣n/y.2:=by
 obtain⟨m,e,e',_⟩:=wK hp hy
 obtain⟨m',f,_⟩:=wK hp hx
 rw[e']
 refine zBs (cop_xy (hp.row x hx) (hp.row y hy) ne) ?_
 rw[← e,f];exact Int.dvd_mul_right _ _
structure Sh (n q hole c:Int):Prop where
 lo:0≤c
 hi:c < q
 dv:q∣c*(n/q)-hole
theorem sh_of {n q hole u:Int}(hq:0 < q)(hu:(n/q*u-1)%q=0):Sh n q hole (hole*u%q):=by
 refine⟨Int.emod_nonneg _ (by omega),Int.emod_lt_of_pos _ hq,?_⟩
 have d1:q∣hole*u-hole*u%q:=Int.dvd_self_sub_emod
 have d2:q∣n/q*u-1:=Int.dvd_of_emod_eq_zero hu
 have e:hole*u%q*(n/q)-hole=hole*(n/q*u-1)-(hole*u-hole*u%q)*(n/q):=by
  rw[Int.mul_sub,Int.sub_mul,Int.mul_one]
  have:hole*(n/q*u)=hole*u*(n/q):=by rw[Int.mul_assoc,Int.mul_comm u]
  omega
 rw[e]
 exact Int.dvd_sub (Int.dvd_mul_of_dvd_right d2) (Int.dvd_mul_of_dvd_left d1)
theorem sh_one {n q h h' c c':Int}(cop:Nat.Coprime q.natAbs (n/q).natAbs)(a:Sh n q h c)(b:Sh n q h' c')(e:q∣h-h'):c=c':=by
 have d:q∣n/q*(c-c'):=by
  have:=Int.dvd_add (Int.dvd_sub a.dv b.dv) e
  have z:c*(n/q)-h-(c'*(n/q)-h')+(h-h')=n/q*(c-c'):=by
   rw[Int.mul_sub,Int.mul_comm (n/q) c,Int.mul_comm (n/q) c'];omega
  rwa [z] at this
 have d':=zBs cop d
 have z:=Int.emod_eq_emod_iff_emod_sub_eq_zero.mpr (Int.emod_eq_zero_of_dvd d')
 rwa [Int.emod_eq_of_lt a.lo a.hi,Int.emod_eq_of_lt b.lo b.hi] at z
theorem cop_part {n:Int}{ps:List (Int×Int)}(hp:Parts n ps){x:Int×Int}(hx:x∈ps):Nat.Coprime x.2.natAbs (n/x.2).natAbs:=by
 obtain⟨m,_,e,_,_,_,c⟩:=wK hp hx
 rw[e];exact c
end Rs
namespace Rg
def rv (n:Int)(t:Int×Int×Int)(x:Int):Int:=if (x-t.2.1)%(n/t.1)=0 then t.2.2 else 0
def rvs (n:Int)(rows:List (Int×Int×Int))(x:Int):Int:=(rows.map fun t=>rv n t x).sum
theorem rvs_snoc (n:Int)(rows:List (Int×Int×Int))(t:Int×Int×Int)(x:Int):rvs n (rows ++ [t]) x=rvs n rows x+rv n t x:=by
 unfold rvs;rw[List.map_append,List.sum_append];simp
theorem lay0 {n st:Nat}(hn:0 < n)(hst:0 < st)(hole many:Int)(a:List Int):∀ x:Int,Ld.at' a x=Ld.at' a x+(if (x-hole)%st=0∧(x%n)/st < ((0:Nat):Int) then many else 0):=fun x=>by
 rw[if_neg,Int.add_zero]
 rintro⟨_,z⟩
 have:=Int.ediv_nonneg (Int.emod_nonneg x (show (n:Int)≠0 by omega)) (show (0:Int)≤st by omega)
 omega
theorem lay1 {n st p i:Nat}(hst:0 < st)(hnp:n=p*st)(hi:i < p){hole many:Int}{a b:List Int}(hb:b.length=n)
  (h:∀ x:Int,Ld.at' b x=Ld.at' a x+(if (x-hole)%st=0∧(x%n)/st < (i:Int) then many else 0)) :
  0≤hole%st+i*st∧hole%st+i*st < (n:Int)∧∀ x:Int,Ld.at' (b.set (hole%st+i*st).toNat (Ld.at' b (hole%st+i*st)+many)) x=Ld.at' a x+(if (x-hole)%st=0∧(x%n)/st < ((i+1:Nat):Int) then many else 0):=by
 have l0:=Int.emod_nonneg hole (show (st:Int)≠0 by omega)
 have l1:=Int.emod_lt_of_pos hole (show (0:Int) < st by omega)
 have hn:0 < n:=by rw[hnp];exact Nat.mul_pos (by omega) hst
 have is0:(0:Int)≤(i:Int)*st:=Int.mul_nonneg (by omega) (by omega)
 have is1:((i:Int)+1)*st≤n:=by
  rw[hnp,Int.natCast_mul]
  exact Int.mul_le_mul_of_nonneg_right (by omega) (by omega)
 rw[Int.add_mul,Int.one_mul] at is1
 have y0:0≤hole%st+i*st:=by omega
 have y1:hole%st+i*st < (n:Int):=by omega
 have ym:(hole%st+i*st)%n=hole%st+i*st:=Int.emod_eq_of_lt y0 y1
 have sn:(st:Int)∣n:=⟨p,by rw[hnp,Int.natCast_mul,Int.mul_comm]⟩
 have ys:(hole%st+i*st)/st=i:=by rw[Int.add_mul_ediv_right _ _ (by omega),Int.ediv_eq_zero_of_lt l0 l1,Int.zero_add]
 refine⟨y0,y1,fun x=>?_⟩
 have e:=Ld.at_set hb hn (hole%st+i*st) (Ld.at' b (hole%st+i*st)+many) x
 rw[ym] at e
 rw[e]
 by_cases c:x%n=hole%st+i*st
 ·have c1:(x-hole)%st=0:=by
   have:x%st=hole%st:=by
    rw[← Int.emod_emod_of_dvd x sn,c,Int.add_mul_emod_self_right,Int.emod_emod_of_dvd _ (Int.dvd_refl _)]
   rw[Int.sub_emod,this];simp
  rw[if_pos c,if_pos ⟨c1,by rw[c,ys];omega⟩]
  have ex:Ld.at' b (hole%st+i*st)=Ld.at' b x:=Ld.vG hb _ _ (by rw[ym,c])
  rw[ex,h,if_neg]
  ·omega
  ·rintro⟨_,z⟩
   rw[c,ys] at z;omega
 ·rw[if_neg c,h]
  by_cases d:(x-hole)%st=0∧(x%n)/st < (i:Int)
  ·rw[if_pos d,if_pos ⟨d.1,by have:=d.2;omega⟩]
  ·rw[if_neg d,if_neg]
   rintro⟨z1,z2⟩
   have zi:(x%n)/st=i:=by
    rcases Int.lt_or_le ((x%n)/st) i with w | w
    ·exact absurd ⟨z1,w⟩ d
    ·omega
   have zm:(x%n)%st=hole%st:=by
    rw[Int.emod_emod_of_dvd x sn]
    have:=Int.emod_eq_emod_iff_emod_sub_eq_zero.mpr z1
    exact this
   have:=Int.emod_add_mul_ediv (x%n) st
   rw[zi,zm,Int.mul_comm] at this
   exact c this.symm
theorem lay2 {n st p:Nat}(hst:0 < st)(hp:0 < p)(hnp:n=p*st){hole many:Int}{a b:List Int}
  (h:∀ x:Int,Ld.at' b x=Ld.at' a x+(if (x-hole)%st=0∧(x%n)/st < (p:Int) then many else 0)):∀ x:Int,Ld.at' b x=Ld.at' a x+(if (x-hole)%st=0 then many else 0):=fun x=>by
 rw[h]
 have hn:0 < n:=by rw[hnp];exact Nat.mul_pos hp hst
 have lt:(x%n)/st < (p:Int):=by
  refine Int.ediv_lt_of_lt_mul (by omega) ?_
  have:=Int.emod_lt_of_pos x (show (0:Int) < n by omega)
  rw[hnp,Int.natCast_mul] at this ⊢
  exact this
 by_cases c:(x-hole)%st=0
 ·rw[if_pos ⟨c,lt⟩,if_pos c]
 ·rw[if_neg (fun z=>c z.1),if_neg c]
theorem cnt_ring {n st p:Nat}(hst:0 < st)(hp:0 < p)(hnp:n=p*st)(hole:Int):hole%st < (n:Int)∧(((n:Int)-hole%st-1)/st+1).toNat=p:=by
 have l0:=Int.emod_nonneg hole (show (st:Int)≠0 by omega)
 have l1:=Int.emod_lt_of_pos hole (show (0:Int) < st by omega)
 have e:(n:Int)=p*st:=by rw[hnp,Int.natCast_mul]
 have s1:(st:Int)≤n:=by rw[e];have:=Int.mul_le_mul_of_nonneg_right (show (1:Int)≤p by omega) (show (0:Int)≤st by omega);omega
 refine⟨by omega,?_⟩
 have q:((n:Int)-hole%st-1)/st=p-1:=by
  have r:(n:Int)-hole%st-1=(st-1-hole%st)+(p-1)*st:=by rw[Int.sub_mul,Int.one_mul,e];omega
  rw[r,Int.add_mul_ediv_right _ _ (by omega),Int.ediv_eq_zero_of_lt (by omega) (by omega),Int.zero_add]
 rw[q];omega
theorem step_of {n:Nat}{p:Int}(hn:1≤n)(hp:2≤p)(d:p∣n):∃ st:Nat,(n:Int)/p=st∧0 < st∧n=p.toNat*st∧p.toNat≤n:=by
 obtain⟨e,he⟩:=d
 have e1:1≤e:=by
  rcases Int.lt_or_le e 1 with z | z
  ·have:=Int.mul_le_mul_of_nonneg_left (show e≤0 by omega) (show 0≤p by omega);omega
  ·exact z
 have q:(n:Int)/p=e:=by rw[he];exact Int.mul_ediv_cancel_left _ (by omega)
 have f:n=p.toNat*e.toNat:=by
  have:((p.toNat*e.toNat:Nat):Int)=p*e:=by rw[Int.natCast_mul,Int.toNat_of_nonneg (by omega),Int.toNat_of_nonneg (by omega)]
  omega
 exact⟨e.toNat,by rw[q,Int.toNat_of_nonneg (by omega)],by omega,f,by rw[f];exact Nat.le_mul_of_pos_right _ (by omega)⟩
end Rg
namespace Rg
end Rg
namespace Rt
open Pt (Parts)
structure Pc (n:Nat)(p q u:Int):Prop where
 n1:1≤n
 p2:2≤p
 q2:1≤q
 pq:p∣q
 qn:q∣(n:Int)
 le:((n:Int)/q*u-1)%q=0
theorem Pc.mk' {n:Nat}{ps:List (Int×Int)}(hn:1≤n)(hp:Parts n ps){x:Int×Int}(hx:x∈ps){u:Int}(hu:((n:Int)/x.2*u-1)%x.2=0):Pc n x.1 x.2 u:=by
 obtain⟨m,e,e',_,q2,d,_⟩:=Rs.wK hp hx
 exact⟨hn,(hp.row x hx).pr.1,by omega,d,⟨m,e⟩,hu⟩
section
variable {n:Nat}{p q u:Int}
def top (p q u k:Int):Int:=(k*u%q)/(q/p)
theorem Pc.m (h:Pc n p q u):∃ m,q=p*m∧q/p=m∧1≤m:=by
 obtain⟨m,e⟩:=h.pq
 have hp:=h.p2
 have hq:=h.q2
 refine⟨m,e,by rw[e];exact Int.mul_ediv_cancel_left _ (by omega),?_⟩
 rcases Int.lt_or_le m 1 with z | z
 ·have:=Int.mul_le_mul_of_nonneg_left (show m≤0 by omega) (show 0≤p by omega);omega
 ·exact z
theorem Pc.cof (h:Pc n p q u):∃ c,(n:Int)=q*c∧(n:Int)/q=c∧(n:Int)/p=c*(q/p):=by
 obtain⟨c,e⟩:=h.qn
 obtain⟨m,em,em',m1⟩:=h.m
 have hp:=h.p2
 have hq:=h.q2
 refine⟨c,e,by rw[e];exact Int.mul_ediv_cancel_left _ (by omega),?_⟩
 rw[em',e,em,Int.mul_assoc,Int.mul_ediv_cancel_left _ (by omega),Int.mul_comm]
theorem Pc.step (h:Pc n p q u)(k t:Int):((k+t*((n:Int)/p))*u)%q=(k*u+t*(q/p))%q:=by
 obtain⟨c,e,e1,e2⟩:=h.cof
 have d:q∣c*u-1:=by have:=Int.dvd_of_emod_eq_zero h.le;rwa [e1] at this
 refine Int.emod_eq_emod_iff_emod_sub_eq_zero.mpr (Int.emod_eq_zero_of_dvd ?_)
 rw[e2]
 have:(k+t*(c*(q/p)))*u-(k*u+t*(q/p))=t*(q/p)*(c*u-1):=by
  rw[Int.add_mul,Int.mul_sub,Int.mul_one]
  have:t*(c*(q/p))*u=t*(q/p)*(c*u):=by
   rw[Int.mul_assoc,Int.mul_assoc t (q/p),Int.mul_comm c (q/p),Int.mul_assoc]
  omega
 rw[this]
 exact Int.dvd_mul_of_dvd_right d
theorem Pc.top_lt (h:Pc n p q u)(k:Int):0≤top p q u k∧top p q u k < p:=by
 obtain⟨m,em,em',m1⟩:=h.m
 have hq:=h.q2
 unfold top
 rw[em']
 have a:=Int.emod_nonneg (k*u) (show q≠0 by omega)
 have b:=Int.emod_lt_of_pos (k*u) (show 0 < q by omega)
 refine⟨Int.ediv_nonneg a (by omega),Int.ediv_lt_of_lt_mul (by omega) ?_⟩
 rw[← em];exact b
theorem Pc.top_step (h:Pc n p q u)(k t:Int):top p q u (k+t*((n:Int)/p))=(top p q u k+t)%p:=by
 obtain⟨m,em,em',m1⟩:=h.m
 have hq:=h.q2
 have hp:=h.p2
 unfold top
 rw[h.step,em']
 have r0:=Int.emod_nonneg (k*u) (show q≠0 by omega)
 have e1:(k*u+t*m)%q=(k*u%q+t*m)%q:=by rw[Int.emod_add_emod]
 rw[e1]
 generalize k*u%q=r
 have rd:=Int.emod_add_mul_ediv r m
 have s0:=Int.emod_nonneg r (show m≠0 by omega)
 have s1:=Int.emod_lt_of_pos r (show 0 < m by omega)
 generalize hs:r%m=s at rd s0 s1
 generalize hT:r/m=T at rd
 have er:r+t*m=s+m*(T+t):=by rw[← rd,Int.mul_add,Int.mul_comm t m];omega
 rw[er]
 have td:=Int.emod_add_mul_ediv (T+t) p
 have v0:=Int.emod_nonneg (T+t) (show p≠0 by omega)
 have v1:=Int.emod_lt_of_pos (T+t) (show 0 < p by omega)
 generalize (T+t)%p=v at td v0 v1
 generalize (T+t)/p=w at td
 have e2:s+m*(T+t)=(s+m*v)+q*w:=by
  rw[← td,Int.mul_add,em,← Int.mul_assoc m p w,Int.mul_comm m p];omega
 rw[e2,Int.add_mul_emod_self_left]
 have mv0:0≤m*v:=Int.mul_nonneg (by omega) v0
 have mv1:m*v+m≤q:=by
  have:=Int.mul_le_mul_of_nonneg_left (show v+1≤p by omega) (show 0≤m by omega)
  rw[Int.mul_add,Int.mul_one,Int.mul_comm m p,← em] at this
  exact this
 rw[Int.emod_eq_of_lt (by omega) (by omega),Int.add_mul_ediv_left _ _ (by omega),Int.ediv_eq_zero_of_lt s0 s1,Int.zero_add]
def dl (n:Nat)(p q u k:Int):Int:=k+(p-1-top p q u k)*((n:Int)/p)
theorem Pc.top_dl (h:Pc n p q u)(k:Int):top p q u (dl n p q u k)=p-1:=by
 have t:=h.top_lt k
 unfold dl
 rw[h.top_step,show top p q u k+(p-1-top p q u k)=p-1 by omega,Int.emod_eq_of_lt (by omega) (by omega)]
theorem dl_top {k:Int}(h:top p q u k=p-1):dl n p q u k=k:=by
 unfold dl
 rw[h];simp
theorem Pc.dl_step (h:Pc n p q u)(k t:Int):(dl n p q u (k+t*((n:Int)/p)))%n=(dl n p q u k)%n:=by
 unfold dl
 rw[h.top_step]
 have hp:=h.p2
 have td:=Int.emod_add_mul_ediv (top p q u k+t) p
 generalize (top p q u k+t)%p=v at td
 generalize (top p q u k+t)/p=w at td
 have np:p*((n:Int)/p)=n:=Int.mul_ediv_cancel' (Int.dvd_trans h.pq h.qn)
 have e:k+t*((n:Int)/p)+(p-1-v)*((n:Int)/p)=k+(p-1-top p q u k)*((n:Int)/p)+n*w:=by
  have f:t+(p-1-v)=(p-1-top p q u k)+p*w:=by omega
  rw[Int.add_assoc,← Int.add_mul,f,Int.add_mul,Int.mul_comm p w,Int.mul_assoc,np,Int.mul_comm w]
  omega
 rw[e,Int.add_mul_emod_self_left]
def E (n:Nat)(p q u:Int)(f:Int→Int):Int→Int:=fun k=>f k-f (dl n p q u k)
theorem Pc.E_per (h:Pc n p q u){f:Int→Int}(hf:Ld.Per n f):Ld.Per n (E n p q u f):=fun x y e=>by
 unfold E
 rw[hf x y e]
 congr 1
 refine hf _ _ ?_
 have et:top p q u x=top p q u y:=by
  unfold top
  have:(x*u)%q=(y*u)%q:=by
   have d:q∣x*u-y*u:=by
    rw[← Int.sub_mul]
    exact Int.dvd_mul_of_dvd_left (Int.dvd_trans h.qn (Int.dvd_of_emod_eq_zero (Int.emod_eq_emod_iff_emod_sub_eq_zero.mp e)))
   exact Int.emod_eq_emod_iff_emod_sub_eq_zero.mpr (Int.emod_eq_zero_of_dvd d)
  rw[this]
 unfold dl
 rw[et]
 exact Ld.zEp _ e
theorem E_add (f g:Int→Int)(k:Int):E n p q u (fun x=>f x+g x) k=E n p q u f k+E n p q u g k:=by unfold E;dsimp only;omega
theorem E_zero {f:Int→Int}(h:∀ k,f k=0)(k:Int):E n p q u f k=0:=by unfold E;rw[h,h];rfl
theorem Pc.E_drop (h:Pc n p q u)(f:Int→Int){k:Int}(t:top p q u k=p-1):E n p q u f k=0:=by unfold E;rw[dl_top t];omega
def Inv (n:Nat)(p:Int)(f:Int→Int):Prop:=∀ k t:Int,f (k+t*((n:Int)/p))=f k
theorem Pc.E_inv (h:Pc n p q u){f:Int→Int}(hf:Inv n p f)(k:Int):E n p q u f k=0:=by
 unfold E dl
 rw[hf];omega
end
section
variable {n:Nat}{p q u p' q' u':Int}
theorem cross_top (d:q∣(n:Int)/p')(k t:Int):top p q u (k+t*((n:Int)/p'))=top p q u k:=by
 unfold top
 congr 1
 refine Int.emod_eq_emod_iff_emod_sub_eq_zero.mpr (Int.emod_eq_zero_of_dvd ?_)
 rw[Int.add_mul,show k*u+t*((n:Int)/p')*u-k*u=t*((n:Int)/p')*u by omega]
 exact Int.dvd_mul_of_dvd_left (Int.dvd_mul_of_dvd_right d)
theorem E_keeps_inv (d:q∣(n:Int)/p'){f:Int→Int}(hf:Inv n p' f):Inv n p' (E n p q u f):=fun k t=>by
 unfold E dl
 rw[cross_top d,hf]
 congr 1
 have:k+t*((n:Int)/p')+(p-1-top p q u k)*((n:Int)/p)=k+(p-1-top p q u k)*((n:Int)/p)+t*((n:Int)/p'):=by omega
 rw[this,hf]
theorem E_keeps_zero (d:q'∣(n:Int)/p){f:Int→Int}(hf:∀ k,top p' q' u' k=p'-1→f k=0)(k:Int)(t:top p' q' u' k=p'-1):E n p q u f k=0:=by
 unfold E dl
 rw[hf k t,hf _ (by rw[cross_top d];exact t)]
 rfl
end
def R (n:Nat):List ((Int×Int)×Int)→(Int→Int)→Int→Int
 | [],f=>f
 | z::l,f=>R n l (E n z.1.1 z.1.2 z.2 f)
structure Ld' (n:Nat)(ps:List (Int×Int))(l:List ((Int×Int)×Int)):Prop where
 n1:1≤n
 hp:Parts n ps
 map:l.map Prod.fst=ps
 le:∀ z∈l,((n:Int)/z.1.2*z.2-1)%z.1.2=0
theorem Ld'.pc {n:Nat}{ps:List (Int×Int)}{l:List ((Int×Int)×Int)}(h:Ld' n ps l){z:(Int×Int)×Int}(hz:z∈l):Pc n z.1.1 z.1.2 z.2 :=
 Pc.mk' h.n1 h.hp (by rw[← h.map];exact List.mem_map.mpr ⟨z,hz,rfl⟩) (h.le z hz)
theorem cross' {n:Nat}{ps:List (Int×Int)}(hp:Parts n ps){x y:Int×Int}(hx:x∈ps)(hy:y∈ps)(ne:x.1≠y.1):x.2∣(n:Int)/y.1:=by
 have c:=Rs.cross hp hx hy ne
 obtain⟨m,e,e',_,q2,⟨t,d⟩,_⟩:=Rs.wK hp hy
 have p2:=(hp.row y hy).pr.1
 have:(n:Int)/y.1=(n:Int)/y.2*t:=by
  rw[e',e,d,Int.mul_assoc,Int.mul_ediv_cancel_left _ (by omega),Int.mul_comm]
 rw[this]
 exact Int.dvd_mul_of_dvd_left c
theorem R_add (n:Nat):∀ (l:List ((Int×Int)×Int))(f g:Int→Int)(k:Int),R n l (fun x=>f x+g x) k=R n l f k+R n l g k
 | [],f,g,k=>rfl
 | z::l,f,g,k=>by
  simp only [R]
  have:E n z.1.1 z.1.2 z.2 (fun x=>f x+g x)=fun x=>E n z.1.1 z.1.2 z.2 f x+E n z.1.1 z.1.2 z.2 g x:=funext fun x=>E_add f g x
  rw[this,R_add n l]
theorem R_zero (n:Nat):∀ (l:List ((Int×Int)×Int)){f:Int→Int},(∀ k,f k=0)→∀ k,R n l f k=0
 | [],f,h,k=>h k
 | z::l,f,h,k=>R_zero n l (fun k=>E_zero h k) k
theorem R_inv {n:Nat}{ps:List (Int×Int)}:∀ {l:List ((Int×Int)×Int)}{x:Int×Int},(∀ z∈l,Pc n z.1.1 z.1.2 z.2)→(∀ z∈l,z.1=x∨z.1.2∣(n:Int)/x.1)→(∃ z∈l,z.1=x)→∀ {f:Int→Int},Inv n x.1 f→∀ k,R n l f k=0
 | [],x,_,_,⟨z,hz,_⟩,f,hf,k=>by cases hz
 | z::l,x,hpc,hc,hex,f,hf,k=>by
  simp only [R]
  by_cases e:z.1=x
  ·refine R_zero n l (fun k=>(hpc z List.mem_cons_self).E_inv ?_ k) k
   rw[e];exact hf
  ·have d:z.1.2∣(n:Int)/x.1:=(hc z List.mem_cons_self).resolve_left e
   refine R_inv (ps:=ps) (fun y hy=>hpc y (List.mem_cons_of_mem _ hy)) (fun y hy=>hc y (List.mem_cons_of_mem _ hy)) ?_ (E_keeps_inv d hf) k
   obtain⟨y,hy,ey⟩:=hex
   rcases List.mem_cons.mp hy with w | w
   ·exact absurd (w▸ey) e
   ·exact⟨y,w,ey⟩
theorem Ld'.kill {n:Nat}{ps:List (Int×Int)}{l:List ((Int×Int)×Int)}(h:Ld' n ps l){x:Int×Int}(hx:x∈ps){f:Int→Int}(hf:Inv n x.1 f)(k:Int):R n l f k=0:=by
 have mem:∀ z∈l,z.1∈ps:=fun z hz=>by rw[← h.map];exact List.mem_map.mpr ⟨z,hz,rfl⟩
 refine R_inv (ps:=ps) (x:=x) (fun z hz=>h.pc hz) (fun z hz=>?_) ?_ hf k
 ·by_cases e:z.1=x
  ·exact .inl e
  ·refine .inr (cross' h.hp (mem z hz) hx fun w=>e ?_)
   -- two parts of one prime are the same
   rcases List.mem_iff_getElem.mp (mem z hz) with ⟨i,hi,ei⟩
   rcases List.mem_iff_getElem.mp hx with ⟨j,hj,ej⟩
   have pw:=List.pairwise_iff_getElem.mp h.hp.srt
   rcases Nat.lt_trichotomy i j with g | g | g
   ·have:=pw i j hi hj g;rw[ei,ej] at this;omega
   ·subst g;rw[← ei,ej]
   ·have:=pw j i hj hi g;rw[ei,ej] at this;omega
 ·rw[← h.map] at hx
  obtain⟨z,hz,e⟩:=List.mem_map.mp hx
  exact⟨z,hz,e⟩
end Rt
namespace Rt
open Pt (Parts)
theorem two_pow:∀ (l:List (Int×Int)),(∀ x∈l,Pt.Row x)→(2:Int)^l.length≤Pt.Prd l
 | [],_=>by simp [Pt.Prd]
 | x::r,h=>by
  have a:=two_pow r fun y hy=>h y (List.mem_cons_of_mem _ hy)
  have b:=Pt.zFc (h x List.mem_cons_self)
  have c:=Pt.zCr r fun y hy=>h y (List.mem_cons_of_mem _ hy)
  simp only [Pt.Prd,List.length_cons]
  rw[Int.pow_succ,Int.mul_comm]
  exact Int.mul_le_mul (by omega) a (Int.pow_nonneg (by omega)) (by omega)
theorem few_parts {n:Nat}{ps:List (Int×Int)}(hp:Parts n ps)(hn:n≤420):ps.length≤8:=by
 rcases Nat.lt_or_ge 8 ps.length with z | z
 ·have a:=two_pow ps hp.row
  rw[hp.prd] at a
  have b:(2:Int)^9≤2^ps.length:=Pt.pow_mono (p:=2) (by decide) z
  have c:(2:Int)^9=512:=by decide
  omega
 ·exact z
section
variable {n:Nat}{p q u:Int}
theorem Pc.top_iff (h:Pc n p q u)(k:Int):(k*u%q ≥ q-q/p)↔top p q u k=p-1:=by
 obtain⟨m,em,em',m1⟩:=h.m
 have hq:=h.q2
 have hp:=h.p2
 have t:=h.top_lt k
 unfold top at t ⊢
 rw[em'] at t ⊢
 have r1:=Int.emod_lt_of_pos (k*u) (show 0 < q by omega)
 have rd:=Int.emod_add_mul_ediv (k*u%q) m
 have s0:=Int.emod_nonneg (k*u%q) (show m≠0 by omega)
 have s1:=Int.emod_lt_of_pos (k*u%q) (show 0 < m by omega)
 generalize k*u%q=r at *
 generalize r/m=T at *
 constructor
 ·intro g
  rcases Int.lt_or_le T (p-1) with z | z
  ·have:=Int.mul_le_mul_of_nonneg_left (show T+1≤p-1 by omega) (show 0≤m by omega)
   rw[Int.mul_add,Int.mul_one,Int.mul_sub,Int.mul_one,Int.mul_comm m p,← em] at this
   omega
  ·omega
 ·intro g
  rw[g,Int.mul_sub,Int.mul_one,Int.mul_comm m p,← em] at rd
  omega
theorem Pc.top_per (h:Pc n p q u){x y:Int}(e:x%n=y%n):top p q u x=top p q u y:=by
 unfold top
 have:(x*u)%q=(y*u)%q:=by
  have d:q∣x*u-y*u:=by
   rw[← Int.sub_mul]
   exact Int.dvd_mul_of_dvd_left (Int.dvd_trans h.qn (Int.dvd_of_emod_eq_zero (Int.emod_eq_emod_iff_emod_sub_eq_zero.mp e)))
  exact Int.emod_eq_emod_iff_emod_sub_eq_zero.mpr (Int.emod_eq_zero_of_dvd d)
 rw[this]
def drs (p q u:Int):Nat→List Int
 | 0=>[]
 | i+1=>drs p q u i ++ (if top p q u i=p-1 then [(i:Int)] else [])
theorem zBe {p q u:Int}:∀ {i:Nat}{k:Int},k∈drs p q u i↔0≤k∧k < i∧top p q u k=p-1
 | 0,k=>⟨fun h=>(nomatch h),fun h=>by omega⟩
 | i+1,k=>by
  unfold drs
  rw[List.mem_append,zBe]
  constructor
  ·rintro (⟨a,b,c⟩ | h)
   ·exact⟨a,by omega,c⟩
   ·split at h
    ·rename_i e;rw[List.mem_singleton.mp h];exact⟨by omega,by omega,e⟩
    ·cases h
  ·rintro⟨a,b,c⟩
   by_cases z:k=i
   ·subst z;exact .inr (by rw[if_pos c];simp)
   ·exact .inl ⟨a,by omega,c⟩
theorem drs_srt {p q u:Int}:∀ i:Nat,(drs p q u i).Pairwise (· < ·)
 | 0=>List.Pairwise.nil
 | i+1=>by
  unfold drs
  rw[List.pairwise_append]
  refine⟨drs_srt i,by split <;> simp,fun x hx y hy=>?_⟩
  have:=(zBe.mp hx).2.1
  split at hy
  ·rw[List.mem_singleton] at hy;omega
  ·cases hy
theorem drs_len {p q u:Int}:∀ i:Nat,(drs p q u i).length≤i
 | 0=>Nat.le_refl _
 | i+1=>by
  unfold drs
  rw[List.length_append]
  have:=drs_len (p:=p) (q:=q) (u:=u) i
  split <;> simp <;> omega
def D (n:Nat)(p q u k:Int):Int:=dl n p q u k%n
theorem Pc.D_mem (h:Pc n p q u)(k:Int):D n p q u k∈drs p q u n:=by
 have n1:=h.n1
 refine zBe.mpr ⟨Int.emod_nonneg _ (by omega),Int.emod_lt_of_pos _ (by omega),?_⟩
 unfold D
 rw[h.top_per (Int.emod_emod_of_dvd _ (Int.dvd_refl _)),h.top_dl]
theorem Pc.D_iff (h:Pc n p q u){k x:Int}(hk:k∈drs p q u n):(x-k)%((n:Int)/p)=0↔D n p q u x=k:=by
 obtain⟨k0,k1,kt⟩:=zBe.mp hk
 have np:p*((n:Int)/p)=n:=Int.mul_ediv_cancel' (Int.dvd_trans h.pq h.qn)
 have dn:((n:Int)/p)∣n:=⟨p,by rw[Int.mul_comm];exact np.symm⟩
 constructor
 ·intro e
  obtain⟨t,ht⟩:=Int.dvd_of_emod_eq_zero e
  have ex:x=k+t*((n:Int)/p):=by rw[Int.mul_comm];omega
  unfold D
  rw[ex,h.dl_step,dl_top kt,Int.emod_eq_of_lt k0 k1]
 ·intro e
  unfold D at e
  have e2:(dl n p q u x)%((n:Int)/p)=k%((n:Int)/p):=by rw[← e,Int.emod_emod_of_dvd _ dn]
  unfold dl at e2
  rw[Int.add_mul_emod_self_right] at e2
  exact Int.emod_eq_emod_iff_emod_sub_eq_zero.mp e2
theorem rv_neg (n p h m x:Int):Rg.rv n (p,h,-m) x=- Rg.rv n (p,h,m) x:=by
 unfold Rg.rv
 dsimp only
 split <;> simp
structure PI (n:Nat)(p q u:Int)(f:Int→Int)(j:Nat)(b:List Int):Prop where
 len:b.length=n
 at_:∀ x,Ld.at' b x=f x-(if D n p q u x∈(drs p q u n).take j then f (dl n p q u x) else 0)
theorem pi0 {f:Int→Int}{b:List Int}(hb:b.length=n)(h:∀ x,Ld.at' b x=f x):PI n p q u f 0 b:=⟨hb,fun x=>by rw[List.take_zero,if_neg (by simp),Int.sub_zero];exact h x⟩
theorem nodup_at {l:List Int}(h:l.Pairwise (· < ·)){j:Nat}{k:Int}(e:l[j]?=some k):¬ k∈l.take j:=fun m=>by
 obtain⟨i,hi,ei⟩:=List.mem_iff_getElem.mp m
 obtain⟨hj,ej⟩:=List.getElem?_eq_some_iff.mp e
 rw[List.length_take] at hi
 have pw:=List.pairwise_iff_getElem.mp h i j (by omega) hj (by omega)
 rw[List.getElem_take] at ei
 rw[ei,ej] at pw
 omega
theorem Pc.pi_val (h:Pc n p q u){f:Int→Int}{b:List Int}{j:Nat}{k:Int}(pi:PI n p q u f j b)(e:(drs p q u n)[j]?=some k):Ld.at' b k=f k:=by
 have hk:=List.mem_of_getElem? e
 obtain⟨k0,k1,kt⟩:=zBe.mp hk
 have dk:D n p q u k=k:=by unfold D;rw[dl_top kt,Int.emod_eq_of_lt k0 k1]
 rw[pi.at_,dk,if_neg (nodup_at (drs_srt n) e),Int.sub_zero]
theorem zCd {l:List Int}{j:Nat}{k x:Int}(e:l[j]?=some k):x∈l.take (j+1)↔x∈l.take j∨x=k:=by
 rw[Pt.take_snoc e,List.mem_append,List.mem_singleton]
theorem Pc.pi1 (h:Pc n p q u){f:Int→Int}(hf:Ld.Per n f){b b':List Int}{j:Nat}{k:Int}(pi:PI n p q u f j b)(e:(drs p q u n)[j]?=some k)(lb:b'.length=n)
  (hb:∀ x,Ld.at' b' x=Ld.at' b x+Rg.rv n (p,k,-(f k)) x):PI n p q u f (j+1) b':=⟨lb,fun x=>by
 have hk:=List.mem_of_getElem? e
 obtain⟨k0,k1,kt⟩:=zBe.mp hk
 rw[hb,pi.at_]
 unfold Rg.rv
 dsimp only
 by_cases c:D n p q u x=k
 ·rw[if_pos ((h.D_iff hk).mpr c),if_neg (by rw[c];exact nodup_at (drs_srt n) e),if_pos (by rw[zCd e];exact .inr c)]
  have:f (dl n p q u x)=f k:=hf _ _ (by show D n p q u x=_;rw[c,Int.emod_eq_of_lt k0 k1])
  rw[this];omega
 ·rw[if_neg fun z=>c ((h.D_iff hk).mp z)]
  by_cases d:D n p q u x∈(drs p q u n).take j
  ·rw[if_pos d,if_pos (by rw[zCd e];exact .inl d)];omega
  ·rw[if_neg d,if_neg (by rw[zCd e];exact fun z=>z.elim d c)];omega⟩
theorem Pc.pi1z (h:Pc n p q u){f:Int→Int}(hf:Ld.Per n f){b:List Int}{j:Nat}{k:Int}(pi:PI n p q u f j b)(e:(drs p q u n)[j]?=some k)(z:f k=0):PI n p q u f (j+1) b:=by
 refine h.pi1 hf pi e pi.len fun x=>?_
 unfold Rg.rv
 rw[z]
 split <;> simp
theorem Pc.pi_end (h:Pc n p q u){f:Int→Int}{b:List Int}(pi:PI n p q u f (drs p q u n).length b)(x:Int):Ld.at' b x=E n p q u f x:=by
 rw[pi.at_,List.take_length,if_pos (h.D_mem x)];rfl
end
theorem R_snoc (n:Nat):∀ (l:List ((Int×Int)×Int))(z:(Int×Int)×Int)(f:Int→Int),R n (l ++ [z]) f=E n z.1.1 z.1.2 z.2 (R n l f)
 | [],z,f=>rfl
 | y::l,z,f=>by simp only [List.cons_append,R];exact R_snoc n l z _
theorem R_per {n:Nat}:∀ {l:List ((Int×Int)×Int)},(∀ z∈l,Pc n z.1.1 z.1.2 z.2)→∀ {f:Int→Int},Ld.Per n f→Ld.Per n (R n l f)
 | [],_,f,hf=>hf
 | z::l,h,f,hf=>R_per (l:=l) (fun y hy=>h y (List.mem_cons_of_mem _ hy)) ((h z List.mem_cons_self).E_per hf)
structure zBa (n:Nat)(P:Int→Int→Prop)(a b:List Int)(rows:List (Int×Int×Int)):Prop where
 ok:∀ t∈rows,P t.1 t.2.1∧0≤t.2.1∧t.2.1 < n∧¬ t.2.2=0
 nd:(rows.map fun t=>(t.1,t.2.1)).Nodup
 eq:∀ x,Ld.at' a x=Ld.at' b x+Rg.rvs n rows x
theorem zBa.weak {n:Nat}{P Q:Int→Int→Prop}{a b:List Int}{rows:List (Int×Int×Int)}(h:zBa n P a b rows)(w:∀ x y,P x y→Q x y):zBa n Q a b rows :=
 ⟨fun t ht=>let ⟨a,b⟩:=h.ok t ht;⟨w _ _ a,b⟩,h.nd,h.eq⟩
theorem rows0 {n:Nat}{P:Int→Int→Prop}(a:List Int):zBa n P a a []:=⟨fun t h=>(nomatch h),List.nodup_nil,fun x=>by unfold Rg.rvs;simp⟩
theorem zBa.snoc {n:Nat}{P Q:Int→Int→Prop}{a b b':List Int}{rows:List (Int×Int×Int)}{p k m:Int}(h:zBa n P a b rows)(w:∀ x y,P x y→Q x y)(q:Q p k)(no:∀ x y,P x y→¬ (x=p∧y=k))(k0:0≤k)(k1:k < n)(mz:¬ m=0)
  (hb:∀ x,Ld.at' b' x=Ld.at' b x+Rg.rv n (p,k,-m) x):zBa n Q a b' (rows ++ [(p,k,m)]):=by
 refine⟨fun t ht=>?_,?_,fun x=>?_⟩
 ·rcases List.mem_append.mp ht with z | z
  ·obtain⟨a,b⟩:=h.ok t z;exact⟨w _ _ a,b⟩
  ·rw[List.mem_singleton.mp z];exact⟨q,k0,k1,mz⟩
 ·rw[List.map_append,List.nodup_append]
  refine⟨h.nd,by simp,fun x hx y hy e=>?_⟩
  obtain⟨t,ht,et⟩:=List.mem_map.mp hx
  have ey:y=(p,k):=by simpa using hy
  refine no _ _ (h.ok t ht).1 ?_
  rw[e,ey] at et
  exact⟨congrArg Prod.fst et,congrArg Prod.snd et⟩
 ·rw[Rg.rvs_snoc,hb,h.eq,rv_neg];omega
end Rt
namespace Rt
open Pt (Parts)
theorem zDd {n:Nat}{p' q' u':Int}:∀ {l:List ((Int×Int)×Int)},(∀ z∈l,q'∣(n:Int)/z.1.1)→∀ {f:Int→Int},(∀ k,top p' q' u' k=p'-1→f k=0)→∀ k,top p' q' u' k=p'-1→R n l f k=0
 | [],_,f,hf,k,t=>hf k t
 | z::l,h,f,hf,k,t=>zDd (l:=l) (fun y hy=>h y (List.mem_cons_of_mem _ hy)) (fun k t=>E_keeps_zero (h z List.mem_cons_self) hf k t) k t
theorem R_drop {n:Nat}{ps:List (Int×Int)}(hp:Parts n ps):∀ {l:List ((Int×Int)×Int)},(∀ z∈l,Pc n z.1.1 z.1.2 z.2)→(∀ z∈l,z.1∈ps)→l.Pairwise (fun y z=>y.1.1≠z.1.1)→∀ {z:(Int×Int)×Int},z∈l→∀ (f:Int→Int)(k:Int),top z.1.1 z.1.2 z.2 k=z.1.1-1→R n l f k=0
 | [],_,_,_,z,hz,f,k,t=>by cases hz
 | y::l,hpc,hm,nd,z,hz,f,k,t=>by
  have ⟨n1,n2⟩:=List.pairwise_cons.mp nd
  simp only [R]
  rcases List.mem_cons.mp hz with w | w
  ·subst w
   refine zDd (fun x hx=>?_) (fun k t=>(hpc z List.mem_cons_self).E_drop f t) k t
   exact cross' hp (hm z List.mem_cons_self) (hm x (List.mem_cons_of_mem _ hx)) (n1 x hx)
  ·exact R_drop hp (l:=l) (fun x hx=>hpc x (List.mem_cons_of_mem _ hx)) (fun x hx=>hm x (List.mem_cons_of_mem _ hx)) n2 w _ k t
theorem Ld'.nd {n:Nat}{ps:List (Int×Int)}{l:List ((Int×Int)×Int)}(h:Ld' n ps l):l.Pairwise (fun y z=>y.1.1≠z.1.1):=by
 have s:=h.hp.srt
 rw[← h.map,List.pairwise_map] at s
 exact s.imp fun w=>by omega
theorem Ld'.drop {n:Nat}{ps:List (Int×Int)}{l:List ((Int×Int)×Int)}(h:Ld' n ps l){z:(Int×Int)×Int}(hz:z∈l)(f:Int→Int)(k:Int)(t:top z.1.1 z.1.2 z.2 k=z.1.1-1):R n l f k=0 :=
 R_drop h.hp (fun z hz=>h.pc hz) (fun z hz=>by rw[← h.map];exact List.mem_map.mpr ⟨z,hz,rfl⟩) h.nd hz f k t
theorem R_fix {n:Nat}:∀ {l:List ((Int×Int)×Int)},(∀ z∈l,Pc n z.1.1 z.1.2 z.2)→∀ {f:Int→Int},(∀ z∈l,∀ k,top z.1.1 z.1.2 z.2 k=z.1.1-1→f k=0)→R n l f=f
 | [],_,f,_=>rfl
 | z::l,h,f,hf=>by
  simp only [R]
  have e:E n z.1.1 z.1.2 z.2 f=f:=funext fun k=>by
   unfold E
   rw[hf z List.mem_cons_self _ ((h z List.mem_cons_self).top_dl k),Int.sub_zero]
  rw[e]
  exact R_fix (fun y hy=>h y (List.mem_cons_of_mem _ hy)) fun y hy=>hf y (List.mem_cons_of_mem _ hy)
theorem R_gone {n N:Nat}{l':List ((Int×Int)×Int)}{P:Int→Prop} (Φ:(Int→Int)→Int→Int)(add:∀ f g,Φ (fun x=>f x+g x)=fun x=>Φ f x+Φ g x)(zero:∀ x,Φ (fun _=>0) x=0)(kill:∀ (f:Int→Int)(p:Int),Ld.Per n f→P p→Inv n p f→∀ k,R N l' (Φ f) k=0) :
  ∀ {l:List ((Int×Int)×Int)},(∀ z∈l,Pc n z.1.1 z.1.2 z.2)→(∀ z∈l,P z.1.1)→∀ {f:Int→Int},Ld.Per n f→∀ k,R N l' (Φ fun x=>f x-R n l f x) k=0
 | [],_,_,f,_,k=>by
  have:(fun x=>f x-R n [] f x)=fun _=>0:=funext fun x=>by simp [R]
  rw[this]
  exact R_zero N l' zero k
 | z::l,h,hP,f,hf,k=>by
  have pc:=h z List.mem_cons_self
  have e:(fun x=>f x-R n (z::l) f x)=fun x=>f (dl n z.1.1 z.1.2 z.2 x)+(E n z.1.1 z.1.2 z.2 f x-R n l (E n z.1.1 z.1.2 z.2 f) x):=funext fun x=>by
   simp only [R]
   show f x-_=f (dl n z.1.1 z.1.2 z.2 x)+((f x-f (dl n z.1.1 z.1.2 z.2 x))-_)
   omega
  rw[e,add,R_add,R_gone Φ add zero kill (l:=l) (fun y hy=>h y (List.mem_cons_of_mem _ hy)) (fun y hy=>hP y (List.mem_cons_of_mem _ hy)) (pc.E_per hf) k]
  have per:Ld.Per n fun x=>f (dl n z.1.1 z.1.2 z.2 x):=fun x y w=>by
   refine hf _ _ ?_
   unfold dl
   rw[pc.top_per w]
   exact Ld.zEp _ w
  rw[kill _ z.1.1 per (hP z List.mem_cons_self) fun k t=>hf _ _ (pc.dl_step k t)];rfl
def fF (m:Nat)(f:Int→Int)(x:Int):Int:=if x%m=0 then f (x/m) else 0
theorem fF_inv {n m:Nat}(hm:0 < m){p:Int}(hp:0 < p)(pd:p∣(n:Int)){f:Int→Int}(hf:Inv n p f):Inv (m*n) p (fF m f):=fun k t=>by
 have e:((m*n:Nat):Int)/p=m*((n:Int)/p):=by rw[Int.natCast_mul,Int.mul_ediv_assoc _ pd]
 unfold fF
 have e1:(k+t*(((m*n:Nat):Int)/p))=k+m*(t*((n:Int)/p)):=by rw[e,Int.mul_left_comm]
 rw[e1,Int.add_mul_emod_self_left]
 by_cases c:k%m=0
 ·rw[if_pos c,if_pos c,Int.add_mul_ediv_left _ _ (by omega),hf]
 ·rw[if_neg c,if_neg c]
theorem gcop {p:Int}(hp:Pt.Prm p){m:Int}(h:¬ p∣m)(e:Nat):Nat.Coprime (p^e).natAbs m.natAbs:=Rs.cop_pow hp h e
theorem top_fin {n m:Nat}(hm:0 < m)(hn:1≤n){ps ps':List (Int×Int)}(hp:Parts n ps)(hp':Parts ((m*n:Nat):Int) ps'){y:Int×Int}(hy:y∈ps'){u':Int}(hu':(((m*n:Nat):Int)/y.2*u'-1)%y.2=0){k:Int}
  (t:top y.1 y.2 u' (m*k)=y.1-1):∃ x∈ps,∀ u,((n:Int)/x.2*u-1)%x.2=0→top x.1 x.2 u k=x.1-1:=by
 have N1:1≤m*n:=Nat.mul_pos hm hn
 have pc':=Pc.mk' N1 hp' hy hu'
 have row:=hp'.row y hy
 obtain⟨b,hb⟩:=row.pw
 have p2:=row.pr.1
 have iff':=(Pt.jX hp' y).mp hy
 by_cases d:y.1∣(n:Int)
 ·obtain⟨x,hx,ex⟩:=Pt.zCe row.pr ps hp.row (by rw[hp.prd];exact d)
  refine⟨x,hx,fun u hu=>?_⟩
  obtain⟨a,ha⟩:=(hp.row x hx).pw
  rw[ex] at ha
  have ix:=(Pt.jX hp x).mp hx
  have xN:x.2∣((m*n:Nat):Int):=by rw[Int.natCast_mul];exact Int.dvd_mul_of_dvd_right ix.2.2.2.1
  have ab:a≤b:=by
   rcases Nat.lt_or_ge b a with z | z
   ·refine absurd (Int.dvd_trans ?_ xN) iff'.2.2.2.2
    rw[hb,ha,← Int.pow_succ]
    exact⟨y.1^(a+1-(b+1+1)),by rw[← Int.pow_add];congr 1;omega⟩
   ·exact z
  obtain⟨g,hg⟩:∃ g,g=y.1^(b-a):=⟨_,rfl⟩
  have gq:y.2=g*x.2:=by rw[hb,ha,hg,← Int.pow_add];congr 1;omega
  have g1:1≤g:=by rw[hg];exact Pt.zBz p2 _
  obtain⟨cn,en,en',ncn,x2,xd,_⟩:=Rs.wK hp hx
  obtain⟨cN,eN,eN',_,_,_,copN⟩:=Rs.wK hp' hy
  have rel:(m:Int)*cn=g*cN:=by
   have:x.2*((m:Int)*cn)=x.2*(g*cN):=by
    rw[Int.mul_left_comm,← en,← Int.natCast_mul,eN,gq,Int.mul_comm g,Int.mul_assoc]
   exact Int.eq_of_mul_eq_mul_left (by omega) this
  have gm:g∣(m:Int):=by
   have cop:Nat.Coprime g.natAbs cn.natAbs:=by rw[hg];exact gcop row.pr (by rw[← ex];exact ncn) _
   refine Rs.zBs cop ?_
   rw[Int.mul_comm,rel];exact Int.dvd_mul_right _ _
  obtain⟨r,hr⟩:=gm
  have rc:r*cn=cN:=by
   rw[hr,Int.mul_assoc] at rel
   exact Int.eq_of_mul_eq_mul_left (by omega) rel
  have s1:=Rs.sh_of (n:=((m*n:Nat):Int)) (q:=y.2) (hole:=m*k) (u:=u') (by omega) hu'
  have s0:=Rs.sh_of (n:=(n:Int)) (q:=x.2) (hole:=k) (u:=u) (by omega) hu
  have s2:Rs.Sh ((m*n:Nat):Int) y.2 (m*k) (g*(k*u%x.2)):=by
   refine⟨Int.mul_nonneg (by omega) s0.lo,?_,?_⟩
   ·rw[gq];exact Int.mul_lt_mul_of_pos_left s0.hi (by omega)
   ·rw[eN',← rc,hr,gq]
    have d0:=s0.dv
    rw[en'] at d0
    have e:g*(k*u%x.2)*(r*cn)-g*r*k=g*(r*((k*u%x.2)*cn-k)):=by
     rw[Int.mul_sub,Int.mul_sub]
     congr 1
     ·rw[Int.mul_assoc];congr 1;rw[Int.mul_left_comm]
     ·rw[Int.mul_assoc]
    rw[e]
    exact Int.mul_dvd_mul_left g (Int.dvd_mul_of_dvd_right d0)
  have eq:=Rs.sh_one (by rw[eN'];exact copN) s1 s2 (by rw[Int.sub_self];exact Int.dvd_zero _)
  unfold top at t ⊢
  rw[eq] at t
  obtain⟨w,hw⟩:=xd
  rw[ex] at hw
  have w1:x.2/y.1=w:=by rw[hw];exact Int.mul_ediv_cancel_left _ (by omega)
  have w2:y.2/y.1=g*w:=by rw[gq,hw,Int.mul_left_comm];exact Int.mul_ediv_cancel_left _ (by omega)
  rw[w2,Int.mul_ediv_mul_of_pos _ _ (by omega)] at t
  rw[ex,w1]
  exact t
 ·exfalso
  have qm:y.2∣(m:Int):=by
   have cop:Nat.Coprime y.2.natAbs (n:Int).natAbs:=by rw[hb];exact gcop row.pr d _
   refine Rs.zBs cop ?_
   rw[Int.mul_comm,← Int.natCast_mul];exact iff'.2.2.2.1
  unfold top at t
  rw[Int.emod_eq_zero_of_dvd (Int.dvd_mul_of_dvd_left (Int.dvd_mul_of_dvd_left qm)),Int.zero_ediv] at t
  omega
theorem fF_add (m:Nat)(f g:Int→Int):fF m (fun x=>f x+g x)=fun x=>fF m f x+fF m g x:=funext fun x=>by
 unfold fF
 split <;> simp
theorem hp_prm {n:Int}{ps:List (Int×Int)}(hp:Parts n ps){x:Int×Int}(hx:x∈ps):Pt.Prm x.1:=(hp.row x hx).pr
theorem R_fin {n m:Nat}(hm:0 < m){ps ps':List (Int×Int)}{l l':List ((Int×Int)×Int)}(h:Ld' n ps l)(h':Ld' (m*n) ps' l'){f:Int→Int}(hf:Ld.Per n f)(k:Int):R (m*n) l' (fF m f) k=fF m (R n l f) k:=by
 have N1:=h'.n1
 have gone:=R_gone (n:=n) (N:=m*n) (l':=l') (P:=fun p=>p∈ps.map Prod.fst) (fF m) (fF_add m) (fun x=>by unfold fF;split <;> rfl) (fun g p hg hP hi k=>by
  obtain⟨x,hx,ex⟩:=List.mem_map.mp hP
  have pr:=(hp_prm h.hp hx)
  rw[ex] at pr
  have pd:p∣(n:Int):=by rw[← ex];exact ((Pt.jX h.hp x).mp hx).2.1
  obtain⟨y,hy,ey⟩:=Pt.zCe pr ps' h'.hp.row (by rw[h'.hp.prd,Int.natCast_mul];exact Int.dvd_mul_of_dvd_right pd)
  refine h'.kill hy ?_ k
  rw[ey]
  exact fF_inv hm (by have:=pr.1;omega) pd hi) (l:=l) (fun z hz=>h.pc hz) (fun z hz=>by rw[← h.map];exact List.mem_map.mpr ⟨z.1,List.mem_map.mpr ⟨z,hz,rfl⟩,rfl⟩) hf k
 have fix:R (m*n) l' (fF m (R n l f))=fF m (R n l f):=R_fix (fun z hz=>h'.pc hz) fun z hz x t=>by
  unfold fF
  by_cases c:x%m=0
  ·rw[if_pos c]
   obtain⟨k,rfl⟩:=Int.dvd_of_emod_eq_zero c
   rw[Int.mul_ediv_cancel_left _ (by omega)]
   obtain⟨y,hy,ty⟩:=top_fin hm h.n1 h.hp h'.hp (y:=z.1) (by rw[← h'.map];exact List.mem_map.mpr ⟨z,hz,rfl⟩) (h'.le z hz) t
   rw[← h.map] at hy
   obtain⟨z',hz',ez⟩:=List.mem_map.mp hy
   subst ez
   exact h.drop hz' f k (ty _ (h.le z' hz'))
  ·rw[if_neg c]
 have e:fF m f=fun x=>fF m (fun y=>f y-R n l f y) x+fF m (R n l f) x:=by
  rw[← fF_add];congr 1;funext y;omega
 rw[e,R_add,gone,Int.zero_add,fix]
end Rt
namespace Rt
open Pt (Parts)
theorem top_lead {n:Nat}{ps:List (Int×Int)}(hp:Parts n ps){x:Int×Int}(hx:x∈ps){u u':Int}(hu:((n:Int)/x.2*u-1)%x.2=0)(hu':((n:Int)/x.2*u'-1)%x.2=0)(k:Int):top x.1 x.2 u k=top x.1 x.2 u' k:=by
 obtain⟨_,_,_,_,q2,_⟩:=Rs.wK hp hx
 have a:=Rs.sh_of (n:=(n:Int)) (q:=x.2) (hole:=k) (u:=u) (by omega) hu
 have b:=Rs.sh_of (n:=(n:Int)) (q:=x.2) (hole:=k) (u:=u') (by omega) hu'
 unfold top
 rw[Rs.sh_one (Rs.cop_part hp hx) a b (by rw[Int.sub_self];exact Int.dvd_zero _)]
theorem R_lead {n:Nat}{ps:List (Int×Int)}(hp:Parts n ps):∀ {l l':List ((Int×Int)×Int)},l.map Prod.fst=l'.map Prod.fst→(∀ z∈l,z.1∈ps)→(∀ z∈l,((n:Int)/z.1.2*z.2-1)%z.1.2=0)→(∀ z∈l',((n:Int)/z.1.2*z.2-1)%z.1.2=0)→∀ f,R n l f=R n l' f
 | [],[],_,_,_,_,f=>rfl
 | [],_::_,e,_,_,_,f=>by simp at e
 | _::_,[],e,_,_,_,f=>by simp at e
 | z::l,z'::l',e,hm,h,h',f=>by
  rw[List.map_cons,List.map_cons,List.cons.injEq] at e
  obtain⟨e1,e2⟩:=e
  simp only [R]
  have ee:E n z.1.1 z.1.2 z.2 f=E n z'.1.1 z'.1.2 z'.2 f:=funext fun k=>by
   have a:=h z List.mem_cons_self
   have b:=h' z' List.mem_cons_self
   rw[← e1] at b ⊢
   unfold E dl
   rw[top_lead hp (hm z List.mem_cons_self) a b]
  rw[ee]
  exact R_lead hp e2 (fun y hy=>hm y (List.mem_cons_of_mem _ hy)) (fun y hy=>h y (List.mem_cons_of_mem _ hy)) (fun y hy=>h' y (List.mem_cons_of_mem _ hy)) _
theorem Ld'.one {n:Nat}{ps ps':List (Int×Int)}{l l':List ((Int×Int)×Int)}(h:Ld' n ps l)(h':Ld' n ps' l')(f:Int→Int):R n l f=R n l' f:=by
 have e:=Pt.parts_one h'.hp h.hp
 subst e
 exact R_lead h.hp (h.map.trans h'.map.symm) (fun z hz=>by rw[← h.map];exact List.mem_map.mpr ⟨z,hz,rfl⟩) h.le h'.le f
theorem Ld'.again {n:Nat}{ps:List (Int×Int)}{l:List ((Int×Int)×Int)}(h:Ld' n ps l)(f:Int→Int):R n l (R n l f)=R n l f:=R_fix (fun z hz=>h.pc hz) fun z hz k t=>h.drop hz f k t
theorem Ld'.deed {n:Nat}{ps:List (Int×Int)}{l:List ((Int×Int)×Int)}(h:Ld' n ps l) (Φ:(Int→Int)→Int→Int)(add:∀ f g,Φ (fun x=>f x+g x)=fun x=>Φ f x+Φ g x)(zero:∀ x,Φ (fun _=>0) x=0)(inv:∀ (f:Int→Int)(p:Int),p∣(n:Int)→Ld.Per n f→Inv n p f→Inv n p (Φ f)){f:Int→Int}(hf:Ld.Per n f) :
  R n l (Φ f)=R n l (Φ (R n l f)):=funext fun k=>by
 have gone:=R_gone (n:=n) (N:=n) (l':=l) (P:=fun p=>p∈ps.map Prod.fst) Φ add zero (fun g p hg hP hi k=>by
  obtain⟨x,hx,ex⟩:=List.mem_map.mp hP
  have pd:p∣(n:Int):=by rw[← ex];exact ((Pt.jX h.hp x).mp hx).2.1
  refine h.kill hx ?_ k
  rw[ex]
  exact inv g p pd hg hi) (l:=l) (fun z hz=>h.pc hz) (fun z hz=>by rw[← h.map];exact List.mem_map.mpr ⟨z.1,List.mem_map.mpr ⟨z,hz,rfl⟩,rfl⟩) hf k
 have e:Φ f=fun x=>Φ (fun y=>f y-R n l f y) x+Φ (R n l f) x:=by
  rw[← add];congr 1;funext y;omega
 rw[e,R_add,gone,Int.zero_add]
theorem Ld'.turn {n:Nat}{ps:List (Int×Int)}{l:List ((Int×Int)×Int)}(h:Ld' n ps l){f:Int→Int}(hf:Ld.Per n f)(far:Int):R n l (fun x=>f (x-far))=R n l (fun x=>R n l f (x-far)) :=
 h.deed (fun g x=>g (x-far)) (fun _ _=>rfl) (fun _=>rfl) (fun g p _ _ hi k t=>by
  show g (k+t*((n:Int)/p)-far)=g (k-far)
  rw[show k+t*((n:Int)/p)-far=k-far+t*((n:Int)/p) by omega,hi]) hf
theorem Ld'.skip {n:Nat}{ps:List (Int×Int)}{l:List ((Int×Int)×Int)}(h:Ld' n ps l){f:Int→Int}(hf:Ld.Per n f)(v:Int):R n l (fun x=>f (x*v))=R n l (fun x=>R n l f (x*v)) :=
 h.deed (fun g x=>g (x*v)) (fun _ _=>rfl) (fun _=>rfl) (fun g p _ _ hi k t=>by
  show g ((k+t*((n:Int)/p))*v)=g (k*v)
  rw[Int.add_mul,Int.mul_assoc,Int.mul_comm ((n:Int)/p) v,← Int.mul_assoc,hi]) hf
def cv (n:Nat)(f g:Int→Int)(x:Int):Int:=Ld.S n fun j=>f j*g (x-j)
theorem cv_comm {n:Nat}(hn:0 < n){f g:Int→Int}(hf:Ld.Per n f)(hg:Ld.Per n g)(x:Int):cv n f g x=cv n g f x:=by
 unfold cv
 have p:Ld.Per n fun j=>f j*g (x-j):=Ld.per_mul hf (Ld.zDx hg x)
 rw[← Ld.S_refl hn p x]
 refine Ld.wL fun j _=>?_
 show f (x-j)*g (x-(x-j))=_
 rw[show x-(x-(j:Int))=j by omega,Int.mul_comm]
theorem cv_inv {n:Nat}{p:Int}{f g:Int→Int}(hi:Inv n p g):Inv n p (cv n f g):=fun k t=>by
 unfold cv
 refine Ld.wL fun j _=>?_
 rw[show k+t*((n:Int)/p)-j=k-j+t*((n:Int)/p) by omega,hi]
theorem cv_inv' {n:Nat}(hn:0 < n){p:Int}{f g:Int→Int}(hf:Ld.Per n f)(hg:Ld.Per n g)(hi:Inv n p f):Inv n p (cv n f g):=fun k t=>by
 rw[cv_comm hn hf hg,cv_comm hn hf hg]
 exact cv_inv hi k t
theorem Ld'.conv {n:Nat}{ps:List (Int×Int)}{l:List ((Int×Int)×Int)}(h:Ld' n ps l){f g:Int→Int}(hf:Ld.Per n f)(hg:Ld.Per n g):R n l (cv n f g)=R n l (cv n (R n l f) (R n l g)):=by
 have n1:=h.n1
 have a:=h.deed (fun f'=>cv n f' g) (fun f1 f2=>funext fun x=>by unfold cv;rw[← Ld.S_add];exact Ld.wL fun j _=>by rw[Int.add_mul]) (fun x=>by unfold cv;rw[Ld.wL (G:=fun _=>0) fun j _=>by rw[Int.zero_mul],Ld.S_zero])
  (fun f' p _ hf' hi=>cv_inv' n1 hf' hg hi) hf
 have b:=h.deed (fun g'=>cv n (R n l f) g') (fun f1 f2=>funext fun x=>by unfold cv;rw[← Ld.S_add];exact Ld.wL fun j _=>by rw[Int.mul_add]) (fun x=>by unfold cv;rw[Ld.wL (G:=fun _=>0) fun j _=>by rw[Int.mul_zero],Ld.S_zero])
  (fun g' p _ _ hi=>cv_inv hi) hg
 rw[a,b]
end Rt
namespace Rt
theorem R_bd {n:Nat}:∀ {l:List ((Int×Int)×Int)}{B:Nat}{f:Int→Int},(∀ k,(f k).natAbs≤B)→∀ k,(R n l f k).natAbs≤2^l.length*B
 | [],B,f,h,k=>by simp only [R,List.length_nil,Nat.pow_zero,Nat.one_mul];exact h k
 | z::l,B,f,h,k=>by
  simp only [R,List.length_cons]
  have:=R_bd (n:=n) (l:=l) (B:=2*B) (f:=E n z.1.1 z.1.2 z.2 f) (fun k=>by
   unfold E
   have a:=h k
   have b:=h (dl n z.1.1 z.1.2 z.2 k)
   omega) k
  rw[Nat.pow_succ,Nat.mul_assoc];exact this
theorem Ld'.bd {n:Nat}{ps:List (Int×Int)}{l:List ((Int×Int)×Int)}(h:Ld' n ps l)(n2:n≤420){a b:List Int}{B:Nat}(ha:Ld.Bd (2^B) a)(bv:∀ x,Ld.at' b x=R n l (Ld.at' a) x):Ld.Bd (2^(8+B)) b:=Ld.bd_of fun k _=>by
 rw[bv]
 refine Nat.le_trans (R_bd (fun k=>Ld.at_bd ha k) k) ?_
 rw[Nat.pow_add]
 refine Nat.mul_le_mul_right _ (Nat.pow_le_pow_right (by decide) ?_)
 have:=few_parts h.hp n2
 rw[← h.map,List.length_map] at this
 exact this
end Rt
namespace Rt
open Pt (Parts)
theorem lead_ex {n:Nat}{ps:List (Int×Int)}(hp:Parts n ps){x:Int×Int}(hx:x∈ps):∃ v:Int,1≤v∧v < x.2∧v*((n:Int)/x.2)%x.2=1:=by
 obtain⟨_,_,_,_,q2,_⟩:=Rs.wK hp hx
 have g:=Rs.G_part hp hx
 have eq:((x.2.toNat:Nat):Int)=x.2:=Int.toNat_of_nonneg (by omega)
 obtain⟨v,hv⟩:=Ld.zCb (st:=(n:Int)/x.2) (n:=x.2.toNat) (by omega) (by rw[eq];exact g)
 rw[eq] at hv
 have one:(1:Int)%x.2=1:=Int.emod_eq_of_lt (by decide) (by omega)
 rw[one] at hv
 have h0:=Int.emod_nonneg v (show x.2≠0 by omega)
 have h1:=Int.emod_lt_of_pos v (show 0 < x.2 by omega)
 have e:(v%x.2)*((n:Int)/x.2)%x.2=1:=by
  rw[← hv,Int.mul_comm ((n:Int)/x.2) v,Int.mul_emod,Int.emod_emod_of_dvd _ (Int.dvd_refl _),← Int.mul_emod]
 refine⟨v%x.2,?_,h1,e⟩
 rcases Int.lt_or_le (v%x.2) 1 with z | z
 ·have:v%x.2=0:=by omega
  rw[this,Int.zero_mul,Int.zero_emod] at e
  omega
 ·exact z
theorem lead_of {n q u:Int}(hq:2≤q)(h:u*(n/q)%q=1):(n/q*u-1)%q=0:=by
 have one:(1:Int)%q=1:=Int.emod_eq_of_lt (by decide) (by omega)
 exact Int.emod_eq_emod_iff_emod_sub_eq_zero.mp (by rw[Int.mul_comm,h,one])
end Rt
namespace Rt
open Pt (Parts)
def low (p q u k:Int):Int:=(k*u%q)%(q/p)
def fw (p q u j k:Int):Int:=if low p q u j=low p q u k then (if top p q u k=top p q u j then 1 else if top p q u k=p-1 then -1 else 0) else 0
def V:List ((Int×Int)×Int)→Int→Int→Int
 | [],_,_=>1
 | z::l,j,k=>fw z.1.1 z.1.2 z.2 j k*V l j k
section
variable {n:Nat}{p q u:Int}
end
def X:List ((Int×Int)×Int)→Int→Int→Int
 | [],_,_=>1
 | z::l,j,k=>(if z.1.2∣k-j then 1 else 0)*X l j k
theorem Ld'.dv {n:Nat}{ps:List (Int×Int)}{l:List ((Int×Int)×Int)}(h:Ld' n ps l){j k:Int}(d:∀ z∈l,z.1.2∣k-j):(n:Int)∣k-j:=by
 have:=Rs.all_dvd (t:=k-j) h.hp.row h.hp.srt (fun x hx=>by
  rw[← h.map] at hx
  obtain⟨z,hz,e⟩:=List.mem_map.mp hx
  rw[← e];exact d z hz)
 rwa [h.hp.prd] at this
end Rt
namespace Rt
end Rt
namespace Rt
open Pt (Parts)
section
variable {n:Nat}{p q u:Int}
end
theorem Ld'.ex {n:Nat}{ps:List (Int×Int)}(hn:1≤n)(hp:Parts n ps):∃ l,Ld' n ps l:=by
 have key:∀ qs:List (Int×Int),(∀ x∈qs,x∈ps)→∃ l:List ((Int×Int)×Int),l.map Prod.fst=qs∧∀ z∈l,((n:Int)/z.1.2*z.2-1)%z.1.2=0:=by
  intro qs
  induction qs with
  | nil=>intro _;exact⟨[],rfl,by simp⟩
  | cons x r ih =>
   intro h
   obtain⟨l,e,hl⟩:=ih fun y hy=>h y (List.mem_cons_of_mem _ hy)
   have hx:=h x List.mem_cons_self
   obtain⟨v,v1,v2,hv⟩:=lead_ex hp hx
   obtain⟨_,_,_,_,q2,_⟩:=Rs.wK hp hx
   refine⟨(x,v)::l,by rw[List.map_cons,e],fun z hz=>?_⟩
   rcases List.mem_cons.mp hz with w | w
   ·rw[w];exact lead_of q2 hv
   ·exact hl z w
 obtain⟨l,e,hl⟩:=key ps fun _ h=>h
 exact⟨l,hn,hp,e,hl⟩
def Kp (l:List ((Int×Int)×Int))(k:Int):Prop:=∀ z∈l,¬ top z.1.1 z.1.2 z.2 k=z.1.1-1
instance (l:List ((Int×Int)×Int))(k:Int):Decidable (Kp l k):=by unfold Kp;infer_instance
def hs (n:Nat):List Int:=(List.range n).map fun (i:Nat)=>(i:Int)
theorem hs_len (n:Nat):(hs n).length=n:=by simp [hs]
theorem hs_mem {n:Nat}{k:Int}:k∈hs n↔0≤k∧k < n:=by
 unfold hs
 constructor
 ·intro h
  obtain⟨i,hi,e⟩:=List.mem_map.mp h
  have:=List.mem_range.mp hi
  omega
 ·intro h
  exact List.mem_map.mpr ⟨k.toNat,List.mem_range.mpr (by omega),by omega⟩
end Rt
namespace Rt
open Pt (Parts)
end Rt
namespace Rt
open Pt (Parts)
theorem E_mul (n:Nat)(p q u:Int)(f:Int→Int)(m k:Int):E n p q u (fun x=>f x*m) k=E n p q u f k*m:=by unfold E;dsimp only;rw[Int.sub_mul]
theorem R_mul (n:Nat)(m:Int):∀ (l:List ((Int×Int)×Int))(f:Int→Int)(k:Int),R n l (fun x=>f x*m) k=R n l f k*m
 | [],f,k=>rfl
 | z::l,f,k=>by
  simp only [R]
  have:E n z.1.1 z.1.2 z.2 (fun x=>f x*m)=fun x=>E n z.1.1 z.1.2 z.2 f x*m:=funext fun x=>E_mul n _ _ _ f m x
  rw[this,R_mul n m l]
theorem fF_per {n m:Nat}(hm:0 < m){f:Int→Int}(hf:Ld.Per n f):Ld.Per (m*n) (fF m f):=fun x y e=>by
 have ed:∃ c,x-y=((m*n:Nat):Int)*c:=by
  obtain⟨c,hc⟩:=Int.dvd_of_emod_eq_zero (Int.emod_eq_emod_iff_emod_sub_eq_zero.mp e)
  exact⟨c,hc⟩
 obtain⟨c,hc⟩:=ed
 have ex:x=y+(m:Int)*(n*c):=by rw[Int.natCast_mul,Int.mul_assoc] at hc;omega
 unfold fF
 rw[ex,Int.add_mul_emod_self_left,Int.add_mul_ediv_left _ _ (show (m:Int)≠0 by omega)]
 split
 ·exact hf _ _ (by rw[Int.add_mul_emod_self_left])
 ·rfl
end Rt
namespace Ps
open Pt (Prm Parts Row Prd)
end Ps
namespace Vl
open Pt (Parts)
open Rt (fF Ld' R)
theorem ld_ex {n:Nat}(hn:1≤n):∃ l:List ((Int×Int)×Int),∃ ps,Ld' n ps l:=by
 obtain⟨ps,hp⟩:=Pl.parts_ex (n:=n) (by omega)
 obtain⟨l,h⟩:=Ld'.ex hn hp
 exact⟨l,ps,h⟩
open Classical in
noncomputable def rst (n:Nat)(f:Int→Int):Int→Int:=if h:1≤n then R n (ld_ex h).choose f else f
theorem w9 {n:Nat}{ps:List (Int×Int)}{l:List ((Int×Int)×Int)}(h:Ld' n ps l)(f:Int→Int):rst n f=R n l f:=by
 unfold rst
 rw[dif_pos h.n1]
 obtain⟨ps',h'⟩:=(ld_ex h.n1).choose_spec
 exact h'.one h f
section
variable {n:Nat}(hn:1≤n){f g:Int→Int}
include hn
theorem rst_add (f g:Int→Int):rst n (fun x=>f x+g x)=fun x=>rst n f x+rst n g x:=by
 obtain⟨l,ps,h⟩:=ld_ex hn
 rw[w9 h,w9 h,w9 h];exact funext fun k=>Rt.R_add n l f g k
theorem zBd (f:Int→Int)(m:Int):rst n (fun x=>m*f x)=fun x=>m*rst n f x:=by
 obtain⟨l,ps,h⟩:=ld_ex hn
 rw[w9 h,w9 h]
 have e:(fun x=>m*f x)=fun x=>f x*m:=funext fun x=>Int.mul_comm ..
 rw[e]
 exact funext fun k=>by rw[Rt.R_mul,Int.mul_comm]
theorem rst_again (f:Int→Int):rst n (rst n f)=rst n f:=by
 obtain⟨l,ps,h⟩:=ld_ex hn
 rw[w9 h,w9 h];exact h.again f
theorem rst_per (hf:Ld.Per n f):Ld.Per n (rst n f):=by
 obtain⟨l,ps,h⟩:=ld_ex hn
 rw[w9 h];exact Rt.R_per (fun z hz=>h.pc hz) hf
theorem rst_skip (hf:Ld.Per n f)(v:Int):rst n (fun x=>f (x*v))=rst n (fun x=>rst n f (x*v)):=by
 obtain⟨l,ps,h⟩:=ld_ex hn
 rw[w9 h,w9 h,w9 h];exact h.skip hf v
theorem rst_fin {m:Nat}(hm:1≤m)(hf:Ld.Per n f):rst (m*n) (fF m f)=fF m (rst n f):=by
 obtain⟨l,ps,h⟩:=ld_ex hn
 obtain⟨l',ps',h'⟩:=ld_ex (n:=m*n) (Nat.mul_pos hm hn)
 rw[w9 h,w9 h'];exact funext fun k=>Rt.R_fin hm h h' hf k
end
theorem fF_one (f:Int→Int):fF 1 f=f:=funext fun x=>by
 unfold fF
 rw[if_pos (by show x%(1:Int)=0;exact Int.emod_one x)]
 show f (x/1)=f x
 rw[Int.ediv_one]
theorem jQ (m:Nat)(c:Int)(f:Int→Int):fF m (fun x=>c*f x)=fun x=>c*fF m f x:=funext fun x=>by
 unfold fF;split
 ·rfl
 ·exact (Int.mul_zero c).symm
theorem fF_fF {p q:Nat}(hp:1≤p)(f:Int→Int):fF p (fF q f)=fF (p*q) f:=funext fun x=>by
 unfold fF
 have e1:x/((p*q:Nat):Int)=x/p/q:=by rw[Int.natCast_mul,Int.ediv_ediv_of_nonneg (by omega)]
 have e2:x%((p*q:Nat):Int)=0↔x%p=0∧(x/p)%q=0:=by
  rw[← Int.dvd_iff_emod_eq_zero,← Int.dvd_iff_emod_eq_zero,← Int.dvd_iff_emod_eq_zero,Int.natCast_mul]
  constructor
  ·rintro⟨c,hc⟩
   refine⟨⟨q*c,by rw[hc,Int.mul_assoc]⟩,⟨c,?_⟩⟩
   rw[hc,Int.mul_assoc,Int.mul_ediv_cancel_left _ (by omega)]
  ·rintro⟨⟨c,hc⟩,⟨d,hd⟩⟩
   refine⟨d,?_⟩
   rw[hc,Int.mul_ediv_cancel_left _ (by omega)] at hd
   rw[hc,hd,Int.mul_assoc]
 by_cases c:x%p=0
 ·rw[if_pos c]
  by_cases d:(x/p)%q=0
  ·rw[if_pos d,if_pos (e2.mpr ⟨c,d⟩),e1]
  ·rw[if_neg d,if_neg (fun z=>d (e2.mp z).2)]
 ·rw[if_neg c,if_neg (fun z=>c (e2.mp z).1)]
theorem fF_at {m:Nat}(hm:1≤m)(f:Int→Int)(x:Int):fF m f (m*x)=f x:=by
 unfold fF
 rw[if_pos (Int.mul_emod_right _ _),Int.mul_ediv_cancel_left _ (by omega)]
theorem fF_inj {m:Nat}(hm:1≤m){f g:Int→Int}(h:fF m f=fF m g):f=g:=funext fun x=>by
 have:=congrFun h (m*x)
 rwa [fF_at hm,fF_at hm] at this
theorem zEg {p q:Nat}(hp:1≤p)(hq:1≤q)(f:Int→Int):fF p (fF q f)=fF q (fF p f):=by rw[fF_fF hp,fF_fF hq,Nat.mul_comm]
def zP (N:Nat)(f:Int→Int)(b:Int)(M:Nat)(g:Int→Int)(c:Int):Prop:=(fun x=>c*fF M (rst N f) x)=fun x=>b*fF N (rst M g) x
theorem zP.symm {N M:Nat}{f g:Int→Int}{b c:Int}(h:zP N f b M g c):zP M g c N f b:=Eq.symm h
theorem zP.refl (N:Nat)(f:Int→Int)(b:Int):zP N f b N f b:=rfl
theorem zP.trans {N M L:Nat}{f g k:Int→Int}{b c d:Int}(hN:1≤N)(hM:1≤M)(hL:1≤L)(hc:c≠0)(h1:zP N f b M g c)(h2:zP M g c L k d):zP N f b L k d:=by
 unfold zP at *
 have a1:=congrArg (fF L) h1
 have a2:=congrArg (fF N) h2
 rw[jQ,jQ] at a1 a2
 refine fF_inj hM ?_
 rw[jQ,jQ]
 funext x
 have b1:=congrFun a1 x
 have b2:=congrFun a2 x
 rw[zEg hL hM] at b1
 rw[zEg hN hL,zEg hN hM] at b2
 refine Int.eq_of_mul_eq_mul_left hc ?_
 show c*(d*fF M (fF L (rst N f)) x)=c*(b*fF M (fF N (rst L k)) x)
 have e1:c*(d*fF M (fF L (rst N f)) x)=d*(c*fF M (fF L (rst N f)) x):=Int.mul_left_comm ..
 have e2:c*(b*fF M (fF N (rst L k)) x)=b*(c*fF M (fF N (rst L k)) x):=Int.mul_left_comm ..
 rw[e1,e2,b1,← b2,Int.mul_left_comm]
theorem same_on {N M J p q:Nat}(hN:1≤N)(hM:1≤M)(hp:1≤p)(hq:1≤q)(e1:J=p*N)(e2:J=q*M){f g:Int→Int}{b c:Int} :
  zP N f b M g c↔(fun x=>c*fF p (rst N f) x)=fun x=>b*fF q (rst M g) x:=by
 have pn:p*N=q*M:=e1.symm.trans e2
 unfold zP
 constructor
 ·intro h
  refine fF_inj hM ?_
  have a:=congrArg (fF p) h
  rw[jQ,jQ] at a ⊢
  rw[zEg hM hp,a,fF_fF hp,fF_fF hM,pn,Nat.mul_comm q M]
 ·intro h
  refine fF_inj hp ?_
  have a:=congrArg (fF M) h
  rw[jQ,jQ] at a ⊢
  rw[zEg hp hM,a,fF_fF hp,fF_fF hM,pn,Nat.mul_comm q M]
structure Pln (n:Nat)(w:Int→Int)(c:Int):Prop where
 n1:1≤n
 per:Ld.Per n w
 fix:rst n w=w
 c1:1≤c
 cw:∀ d:Int,d∣c→(∀ k,d∣w k)→d∣1
 ns:∀ d:Int,d∣n→(∀ k,w k≠0→d∣k)→d∣1
theorem wY {a b:Int}(ha:a≠0){P:Int→Prop}(one:∀ d:Int,d∣a→(∀ k,P k→d∣k)→d∣1)(h:∀ k,P k→a∣b*k):a∣b:=by
 have g0:Int.gcd a b≠0:=fun z=>ha (Int.gcd_eq_zero_iff.mp z).1
 obtain⟨a',ea⟩:((Int.gcd a b:Nat):Int)∣a:=Int.gcd_dvd_left ..
 obtain⟨b',eb⟩:((Int.gcd a b:Nat):Int)∣b:=Int.gcd_dvd_right ..
 obtain⟨D,hD⟩:∃ D,D=Int.gcd a b:=⟨_,rfl⟩
 rw[← hD] at ea eb g0
 subst ea
 subst eb
 rw[Int.gcd_mul_left,Int.natAbs_natCast] at hD
 have cop:Int.gcd a' b'=1:=(Nat.eq_of_mul_eq_mul_left (show 0 < D by omega) (show D*1=D*Int.gcd a' b' by rw[Nat.mul_one];exact hD)).symm
 have gg:(D:Int)≠0:=by omega
 have d1:a'∣1:=one a' ⟨D,Int.mul_comm ..⟩ fun k hk=>by
  obtain⟨z,hz⟩:=h k hk
  rw[Int.mul_assoc,Int.mul_assoc] at hz
  exact Rs.zBs cop ⟨z,Int.eq_of_mul_eq_mul_left gg hz⟩
 obtain⟨u,hu⟩:=d1
 refine⟨u*b',?_⟩
 rw[Int.mul_assoc,← Int.mul_assoc a' u b',← hu,Int.one_mul]
theorem pos_dvd {a b:Int}(ha:1≤a)(hb:1≤b)(h1:a∣b)(h2:b∣a):a=b:=Int.le_antisymm (Int.le_of_dvd (by omega) h1) (Int.le_of_dvd (by omega) h2)
theorem n_dvd {n m:Nat}{w v:Int→Int}{c d:Int}(h:Pln n w c)(g:Pln m v d)(s:zP n w c m v d):(n:Int)∣m:=by
 have hn:=h.n1
 have hm:=g.n1
 have hc:=h.c1
 have hd:=g.c1
 refine wY (P:=fun k=>w k≠0) (by omega) h.ns fun k hk=>?_
 unfold zP at s
 rw[h.fix,g.fix] at s
 have e:=congrFun s (m*k)
 rw[fF_at hm] at e
 unfold fF at e
 by_cases z:((m:Int)*k)%n=0
 ·exact Int.dvd_of_emod_eq_zero z
 ·rw[if_neg z,Int.mul_zero] at e
  exact absurd ((Int.mul_eq_zero.mp e).resolve_left (by omega)) hk
theorem Pln.uniq {n m:Nat}{w v:Int→Int}{c d:Int}(h:Pln n w c)(g:Pln m v d)(s:zP n w c m v d):n=m∧w=v∧c=d:=by
 have e:(n:Int)=m:=pos_dvd (by have:=h.n1;omega) (by have:=g.n1;omega) (n_dvd h g s) (n_dvd g h s.symm)
 have e:n=m:=by omega
 subst e
 have hn:=h.n1
 have e1:(fun x=>d*w x)=fun x=>c*v x:=by
  unfold zP at s
  rw[h.fix,g.fix] at s
  rw[← jQ,← jQ] at s
  exact fF_inj hn s
 have cd:c∣d:=wY (P:=fun y=>∃ k,w k=y) (by have:=h.c1;omega) (fun z hz hk=>h.cw z hz fun k=>hk _ ⟨k,rfl⟩) fun y ⟨k,hk⟩=>by
  rw[← hk];exact⟨v k,congrFun e1 k⟩
 have dc:d∣c:=wY (P:=fun y=>∃ k,v k=y) (by have:=g.c1;omega) (fun z hz hk=>g.cw z hz fun k=>hk _ ⟨k,rfl⟩) fun y ⟨k,hk⟩=>by
  rw[← hk];exact⟨w k,(congrFun e1 k).symm⟩
 have ec:=pos_dvd h.c1 g.c1 cd dc
 subst ec
 refine⟨rfl,funext fun x=>?_,rfl⟩
 exact Int.eq_of_mul_eq_mul_left (by have:=h.c1;omega) (congrFun e1 x)
theorem tell {N n g:Nat}{f:Int→Int}{b h:Int}(hN:1≤N)(hf:Ld.Per N f)(hg:1≤g)(en:N=g*n)(gs:∀ k,rst N f k≠0→(g:Int)∣k)(gm:∀ d:Int,d∣N→(∀ k,rst N f k≠0→d∣k)→d∣g)
  (h0:h≠0)(hb:h∣b)(hw:∀ k,h∣rst N f k)(hm:∀ d:Int,d∣b→(∀ k,d∣rst N f k)→d∣h)(pos:1≤b/h) :
  Pln n (fun k=>rst N f (g*k)/h) (b/h)∧zP N f b n (fun k=>rst N f (g*k)/h) (b/h):=by
 have hn:1≤n:=by
  rcases Nat.eq_zero_or_pos n with z | z
  ·rw[z,Nat.mul_zero] at en;omega
  ·exact z
 have per:=rst_per hN hf
 have enI:(N:Int)=g*n:=by rw[en,Int.natCast_mul]
 have pw:Ld.Per n fun k=>rst N f (g*k):=fun x y e=>by
  refine per _ _ ?_
  have:(g:Int)*x-g*y=N*((x-y)/n):=by
   have d:(n:Int)∣x-y:=Int.dvd_of_emod_eq_zero (Int.emod_eq_emod_iff_emod_sub_eq_zero.mp e)
   obtain⟨z,hz⟩:=d
   rw[hz,Int.mul_ediv_cancel_left _ (by omega),enI,← Int.mul_sub,hz,Int.mul_assoc]
  refine Int.emod_eq_emod_iff_emod_sub_eq_zero.mpr ?_
  rw[this];exact Int.mul_emod_right _ _
 have sp:fF g (fun k=>rst N f (g*k))=rst N f:=funext fun x=>by
  unfold fF
  by_cases c:x%g=0
  ·rw[if_pos c]
   show rst N f (g*(x/g))=rst N f x
   rw[Int.mul_ediv_cancel' (Int.dvd_of_emod_eq_zero c)]
  ·rw[if_neg c]
   by_cases z:rst N f x=0
   ·exact z.symm
   ·exact absurd (Int.emod_eq_zero_of_dvd (gs x z)) c
 have fx:rst n (fun k=>rst N f (g*k))=fun k=>rst N f (g*k):=by
  refine fF_inj hg ?_
  have a:=rst_fin hn hg pw
  rw[← en,sp,rst_again hN] at a
  rw[← a,sp]
 have hh:(fun k=>h*(rst N f (g*k)/h))=fun k=>rst N f (g*k):=funext fun k=>Int.mul_ediv_cancel' (hw _)
 have fx2:rst n (fun k=>rst N f (g*k)/h)=fun k=>rst N f (g*k)/h:=by
  have a:=zBd hn (fun k=>rst N f (g*k)/h) h
  rw[hh,fx] at a
  funext k
  have:=congrFun a k
  exact Int.eq_of_mul_eq_mul_left h0 (by rw[← this,Int.mul_ediv_cancel' (hw _)])
 obtain⟨b',eb⟩:=hb
 have eb':b/h=b':=by rw[eb];exact Int.mul_ediv_cancel_left _ h0
 refine⟨⟨hn,fun x y e=>congrArg (· / h) (pw x y e),fx2,pos,fun d d1 d2=>?_,fun d d1 d2=>?_⟩,?_⟩
 ·have a:d*h∣h:=hm (d*h) (by rw[eb] ;rw[eb'] at d1;obtain⟨z,hz⟩:=d1;exact⟨z,by rw[hz,Int.mul_left_comm,Int.mul_assoc,Int.mul_left_comm]⟩) fun k=>by
   by_cases z:rst N f k=0
   ·rw[z];exact Int.dvd_zero _
   ·obtain⟨y,hy⟩:=gs k z
    obtain⟨u,hu⟩:=d2 y
    refine⟨u,?_⟩
    have:rst N f k=h*(rst N f (g*y)/h):=by rw[Int.mul_ediv_cancel' (hw _),hy]
    rw[this,hu,Int.mul_left_comm,Int.mul_assoc,Int.mul_left_comm]
  obtain⟨z,hz⟩:=a
  refine⟨z,Int.eq_of_mul_eq_mul_left h0 ?_⟩
  rw[Int.mul_one]
  conv=>lhs;rw[hz]
  rw[Int.mul_comm d h,Int.mul_assoc]
 ·have a:(g:Int)*d∣g:=gm (g*d) (by rw[enI];obtain⟨z,hz⟩:=d1;exact⟨z,by rw[hz,Int.mul_assoc]⟩) fun k hk=>by
   obtain⟨y,hy⟩:=gs k hk
   rw[hy]
   have ne:rst N f (g*y)/h≠0:=fun z=>by
    have:=Int.mul_ediv_cancel' (hw (g*y))
    rw[z,Int.mul_zero,← hy] at this
    exact hk this.symm
   obtain⟨u,hu⟩:=d2 y ne
   exact⟨u,by rw[hu,Int.mul_assoc]⟩
  obtain⟨z,hz⟩:=a
  refine⟨z,Int.eq_of_mul_eq_mul_left (show (g:Int)≠0 by omega) ?_⟩
  rw[Int.mul_one,← Int.mul_assoc];exact hz
 ·rw[same_on (J:=N) hN hn (Nat.le_refl 1) hg (by rw[Nat.one_mul]) en,fF_one,fx2]
  have e1:(fun x=>b*fF g (fun k=>rst N f (g*k)/h) x)=fun x=>b'*fF g (fun k=>h*(rst N f (g*k)/h)) x:=by
   rw[jQ]
   funext x
   rw[eb,Int.mul_comm h b',Int.mul_assoc]
  rw[e1,hh,sp,eb']
end Vl
namespace Vl
open Pt (Parts)
open Rt (fF Ld' R)
theorem same_one {J:Nat}(hJ:1≤J){f g:Int→Int}{b c:Int}:zP J f b J g c↔(fun x=>c*rst J f x)=fun x=>b*rst J g x:=by
 rw[same_on (J:=J) hJ hJ (Nat.le_refl 1) (Nat.le_refl 1) (by rw[Nat.one_mul]) (by rw[Nat.one_mul]),fF_one,fF_one]
theorem jH {N p:Nat}(hN:1≤N)(hp:1≤p){f:Int→Int}(hf:Ld.Per N f)(b:Int):zP N f b (p*N) (fF p f) b:=by
 rw[same_on (J:=p*N) (q:=1) hN (Nat.mul_pos hp hN) hp (Nat.le_refl 1) rfl (by rw[Nat.one_mul]),fF_one,rst_fin hN hp hf]
theorem same_sum {J:Nat}(hJ:1≤J){f1 f2 g1 g2:Int→Int}{b1 b2 c1 c2:Int}(h1:zP J f1 b1 J g1 c1)(h2:zP J f2 b2 J g2 c2) :
  zP J (fun x=>b2*f1 x+b1*f2 x) (b1*b2) J (fun x=>c2*g1 x+c1*g2 x) (c1*c2):=by
 rw[same_one hJ] at *
 rw[rst_add hJ,rst_add hJ,zBd hJ,zBd hJ,zBd hJ,zBd hJ]
 funext x
 have e1:=congrFun h1 x
 have e2:=congrFun h2 x
 show c1*c2*(b2*rst J f1 x+b1*rst J f2 x)=b1*b2*(c2*rst J g1 x+c1*rst J g2 x)
 have a1:c1*rst J f1 x=b1*rst J g1 x:=e1
 have a2:c2*rst J f2 x=b2*rst J g2 x:=e2
 grind
theorem zCa {J:Nat}{f:Int→Int}(hf:Ld.Per J f)(v:Int):Ld.Per J fun x=>f (x*v):=fun x y e=>hf _ _ (Ld.jC v e)
theorem zDs {J:Nat}(hJ:1≤J){f g:Int→Int}(hf:Ld.Per J f)(hg:Ld.Per J g){b c:Int}(h:zP J f b J g c)(v:Int):zP J (fun x=>f (x*v)) b J (fun x=>g (x*v)) c:=by
 rw[same_one hJ] at *
 rw[rst_skip hJ hf,rst_skip hJ hg]
 have a1:=zBd hJ (fun x=>rst J f (x*v)) c
 have a2:=zBd hJ (fun x=>rst J g (x*v)) b
 rw[← a1,← a2]
 congr 1
 funext x
 exact congrFun h (x*v)
theorem own_dvd {n M:Nat}{w g:Int→Int}{c d:Int}(h:Pln n w c)(hM:1≤M)(hd:d≠0)(s:zP n w c M g d):(n:Int)∣M:=by
 have hn:=h.n1
 refine wY (P:=fun k=>w k≠0) (by omega) h.ns fun k hk=>?_
 unfold zP at s
 rw[h.fix] at s
 have e:=congrFun s (M*k)
 rw[fF_at hM] at e
 unfold fF at e
 by_cases z:((M:Int)*k)%n=0
 ·exact Int.dvd_of_emod_eq_zero z
 ·rw[if_neg z,Int.mul_zero] at e
  exact absurd ((Int.mul_eq_zero.mp e).resolve_left hd) hk
theorem fin_skip {p n:Nat}(hp:1≤p){st v:Int}(hu:(st*v)%p=1%p)(w:Int→Int):(fun x=>fF p w (x*st))=fF p fun x=>w (x*st):=funext fun x=>by
 unfold fF
 have iff:(x*st)%p=0↔x%p=0:=by
  rw[← Int.dvd_iff_emod_eq_zero,← Int.dvd_iff_emod_eq_zero]
  constructor
  ·intro d
   have d1:(p:Int)∣st*v-1:=Int.dvd_of_emod_eq_zero (Int.emod_eq_emod_iff_emod_sub_eq_zero.mp hu)
   have d2:(p:Int)∣x*st*v:=Int.dvd_mul_of_dvd_left d
   have d3:(p:Int)∣x*(st*v-1):=Int.dvd_mul_of_dvd_right d1
   have:=Int.dvd_sub d2 d3
   rwa [show x*st*v-x*(st*v-1)=x by grind] at this
  ·intro d;exact Int.dvd_mul_of_dvd_left d
 by_cases c:x%p=0
 ·rw[if_pos (iff.mpr c),if_pos c]
  obtain⟨y,hy⟩:=Int.dvd_of_emod_eq_zero c
  show w (x*st/p)=w (x/p*st)
  rw[hy,Int.mul_assoc,Int.mul_ediv_cancel_left _ (by omega),Int.mul_ediv_cancel_left _ (by omega)]
 ·rw[if_neg (fun z=>c (iff.mp z)),if_neg c]
theorem side_same {n m:Nat}{w u:Int→Int}{c d:Int}(h:Pln n w c)(g:Pln m u d){st v:Int}(hu:(st*v)%n=1%n)(s:zP n (fun x=>w (x*v)) c m u d):m=n:=by
 have hn:=h.n1
 have hm:=g.n1
 have hc:=h.c1
 have hd:=g.c1
 have d1:(m:Int)∣n:=own_dvd g hn (by omega) s.symm
 obtain⟨p,ep⟩:m∣n:=by
  obtain⟨z,hz⟩:=d1
  refine⟨z.toNat,?_⟩
  have z0:0≤z:=by
   rcases Int.lt_or_le z 0 with q | q
   ·have:=Int.mul_le_mul_of_nonneg_left (show z≤-1 by omega) (show (0:Int)≤m by omega);omega
   ·exact q
  have:((m*z.toNat:Nat):Int)=n:=by rw[Int.natCast_mul,Int.toNat_of_nonneg z0];exact hz.symm
  omega
 have hp:1≤p:=by
  rcases Nat.eq_zero_or_pos p with z | z
  ·rw[z,Nat.mul_zero] at ep;omega
  ·exact z
 have en:n=p*m:=by rw[ep,Nat.mul_comm]
 have hup:(st*v)%p=1%p:=by
  have pd:(p:Int)∣n:=⟨m,by rw[en,Int.natCast_mul]⟩
  rw[← Int.emod_emod_of_dvd (st*v) pd,hu,Int.emod_emod_of_dvd 1 pd]
 -- told on n,skipped back
 have s1:zP n (fun x=>w (x*v)) c n (fF p u) d:=zP.trans hn hm hn (by omega) s (by have:=jH hm hp g.per d;rw[← en] at this;exact this)
 have pf:Ld.Per n (fF p u):=by rw[en];exact Rt.fF_per hp g.per
 have s2:=zDs hn (zCa h.per v) pf s1 st
 have e1:(fun x=>w (x*st*v))=w:=funext fun x=>h.per _ _ (by
  rw[Int.mul_assoc,Int.mul_emod,hu,← Int.mul_emod,Int.mul_one])
 have s3:zP n w c n (fF p fun x=>u (x*st)) d:=by
  have:=s2
  rw[fin_skip (n:=n) hp hup] at this
  rwa [show (fun x=>(fun x=>w (x*v)) (x*st))=w from e1] at this
 have pu:Ld.Per m fun x=>u (x*st):=zCa g.per st
 have s4:zP n w c m (fun x=>u (x*st)) d:=zP.trans hn hn hm (by omega) s3 (by have:=(jH hm hp pu d).symm;rw[← en] at this;exact this)
 have d2:=own_dvd h hm (by omega) s4
 have:=pos_dvd (by omega) (by omega) d1 d2
 omega
end Vl
namespace Vl
open Pt (Parts)
open Rt (fF Ld' R)
section
variable {n:Nat}(hn:1≤n)
include hn
end
def dlt (n:Nat)(h x:Int):Int:=if (n:Int)∣x-h then 1 else 0
theorem dlt_per (n:Nat)(h:Int):Ld.Per n (dlt n h):=fun x y e=>by
 unfold dlt
 have d:(n:Int)∣x-y:=Int.dvd_of_emod_eq_zero (Int.emod_eq_emod_iff_emod_sub_eq_zero.mp e)
 have:(n:Int)∣x-h↔(n:Int)∣y-h:=by
  constructor
  ·intro z;have:=Int.dvd_sub z d;rwa [show x-h-(x-y)=y-h by omega] at this
  ·intro z;have:=Int.dvd_add z d;rwa [show y-h+(x-y)=x-h by omega] at this
 by_cases c:(n:Int)∣x-h
 ·rw[if_pos c,if_pos (this.mp c)]
 ·rw[if_neg c,if_neg (fun z=>c (this.mpr z))]
end Vl
namespace Vl
open Pt (Parts)
open Rt (fF Ld' R)
theorem parts_1:Parts ((1:Nat):Int) []:=⟨rfl,fun x h=>(nomatch h),List.Pairwise.nil⟩
theorem rst_1 (f:Int→Int):rst 1 f=f:=by
 have h:Ld' 1 [] []:=⟨Nat.le_refl 1,parts_1,rfl,fun z h=>(nomatch h)⟩
 rw[w9 h];rfl
theorem fin_1 (n:Nat)(A:Int):fF n (fun _=>A)=fun x=>A*dlt n 0 x:=funext fun x=>by
 unfold fF dlt
 rw[Int.sub_zero]
 by_cases c:x%n=0
 ·rw[if_pos c,if_pos (Int.dvd_of_emod_eq_zero c),Int.mul_one]
 ·rw[if_neg c,if_neg (fun z=>c (Int.emod_eq_zero_of_dvd z)),Int.mul_zero]
theorem whole_pln (many:Int):Pln 1 (fun _=>many) 1:=⟨Nat.le_refl 1,fun _ _ _=>rfl,rst_1 _,Int.le_refl 1,fun d h _=>h,fun d h _=>h⟩
theorem rst_same {n:Nat}(hn:1≤n){f g:Int→Int}{c:Int}(hc:c≠0)(s:zP n f c n g c):rst n f=rst n g:=by
 rw[same_one hn] at s
 exact funext fun x=>Int.eq_of_mul_eq_mul_left hc (congrFun s x)
theorem zAe {α:Type}(c:Int):∀ L:List α,(L.map fun _=>c).sum=L.length*c
 | []=>by simp
 | a::L=>by rw[List.map_cons,List.sum_cons,zAe c L,List.length_cons,Int.natCast_succ,Int.add_mul,Int.one_mul,Int.add_comm]
end Vl
namespace Vl
open Rt (fF Ld' R)
def Dg (g:Int)(l:List Int):Int:=l.foldl Eh.G g
def Dv (a:Int)(l:List Int):Int:=Dg (Eh.ab a) l
theorem Dg_snoc (g:Int)(l:List Int)(x:Int):Dg g (l ++ [x])=Eh.G (Dg g l) x:=by simp [Dg]
theorem Dg_dvd:∀ (l:List Int)(g:Int),Dg g l∣g∧∀ x∈l,Dg g l∣x
 | [],g=>⟨Int.dvd_refl _,fun _ h=>(nomatch h)⟩
 | y::l,g=>by
  have ih:=Dg_dvd l (Eh.G g y)
  have e:Dg g (y::l)=Dg (Eh.G g y) l:=rfl
  rw[e]
  refine⟨Int.dvd_trans ih.1 (Int.gcd_dvd_left ..),fun x hx=>?_⟩
  rcases List.mem_cons.mp hx with z | z
  ·rw[z];exact Int.dvd_trans ih.1 (Int.gcd_dvd_right ..)
  ·exact ih.2 x z
theorem Dg_max:∀ (l:List Int)(g d:Int),d∣g→(∀ x∈l,d∣x)→d∣Dg g l
 | [],g,d,h,_=>h
 | y::l,g,d,h,k=>Dg_max l (Eh.G g y) d (Int.dvd_coe_gcd h (k y (by simp))) fun x hx=>k x (List.mem_cons_of_mem _ hx)
theorem Dg_nonneg:∀ (l:List Int)(g:Int),0≤g→0≤Dg g l
 | [],g,h=>h
 | y::l,g,_=>Dg_nonneg l (Eh.G g y) (Eh.G_nonneg ..)
theorem ab_dvd (a:Int):Eh.ab a∣a∧a∣Eh.ab a:=by
 unfold Eh.ab
 split
 ·exact⟨Int.neg_dvd.mpr (Int.dvd_refl _),Int.dvd_neg.mpr (Int.dvd_refl _)⟩
 ·exact⟨Int.dvd_refl _,Int.dvd_refl _⟩
theorem Dv_dvd (a:Int)(l:List Int):Dv a l∣a∧∀ x∈l,Dv a l∣x:=⟨Int.dvd_trans (Dg_dvd l _).1 (ab_dvd a).1,(Dg_dvd l _).2⟩
theorem Dv_max {a:Int}{l:List Int}{d:Int}(h:d∣a)(k:∀ x∈l,d∣x):d∣Dv a l:=Dg_max l _ d (Int.dvd_trans h (ab_dvd a).2) k
theorem ab_nonneg (a:Int):0≤Eh.ab a:=by rw[Eh.ab_nat];omega
theorem Dv_nonneg (a:Int)(l:List Int):0≤Dv a l:=Dg_nonneg l _ (ab_nonneg a)
def hs (b:List Int)(i:Nat):List Int:=(Ld.nz b i).map Prod.fst
theorem hs_succ (b:List Int)(i:Nat):hs b (i+1)=hs b i ++ (if Ld.at' b i=0 then [] else [(i:Int)]):=by
 unfold hs
 rw[Ld.nz_succ,List.map_append]
 split <;> rfl
theorem hs_len (b:List Int)(i:Nat):(hs b i).length≤i:=by unfold hs;rw[List.length_map];exact Ld.nz_len b i
theorem hs_mem {b:List Int}:∀ {i:Nat}{k:Int},k∈hs b i↔0≤k∧k < i∧Ld.at' b k≠0
 | 0,k=>by simp [hs,Ld.nz];omega
 | i+1,k=>by
  rw[hs_succ,List.mem_append,hs_mem]
  by_cases c:Ld.at' b i=0
  ·rw[if_pos c]
   constructor
   ·rintro (h | h)
    ·exact⟨h.1,by omega,h.2.2⟩
    ·simp at h
   ·rintro⟨h0,h1,h2⟩
    refine .inl ⟨h0,?_,h2⟩
    have:k≠i:=fun e=>h2 (by rw[e];exact c)
    omega
  ·rw[if_neg c]
   constructor
   ·rintro (h | h)
    ·exact⟨h.1,by omega,h.2.2⟩
    ·have:k=i:=by simpa using h
     subst this;exact⟨by omega,by omega,c⟩
   ·rintro⟨h0,h1,h2⟩
    by_cases e:k=i
    ·exact .inr (by rw[e];simp)
    ·exact .inl ⟨h0,by omega,h2⟩
def wts (b:List Int)(m s:Nat):List Int:=(List.range m).map fun (t:Nat)=>Ld.at' b (((0:Nat):Int)+(t:Int)*s)
theorem zCo (b:List Int)(m s:Nat):(wts b m s).length=m:=by simp [wts]
theorem wts_at {b:List Int}{m s:Nat}(hm:1≤m)(hb:b.length=m*s)(k:Int):Ld.at' (wts b m s) k=Ld.at' b (s*k):=by
 have h0:=Int.emod_nonneg k (show (m:Int)≠0 by omega)
 have h1:=Int.emod_lt_of_pos k (show 0 < (m:Int) by omega)
 have e:=Ld.zAz (a:=wts b m s) (x:=k) (by rw[zCo];omega)
 rw[zCo] at e
 unfold wts at e
 rw[List.getElem?_map,List.getElem?_range (by omega)] at e
 have e':=Option.some.inj e
 unfold wts
 rw[← e']
 refine Ld.at_per b _ _ ?_
 rw[hb,Int.toNat_of_nonneg h0]
 obtain⟨z,hz⟩:(m:Int)∣k-k%m:=Int.dvd_self_sub_emod
 refine Int.emod_eq_emod_iff_emod_sub_eq_zero.mpr (Int.emod_eq_zero_of_dvd ⟨-z,?_⟩)
 have e3:k%m=k-m*z:=by omega
 rw[e3]
 push_cast
 grind
structure Tp (n:Nat)(f:Int→Int)(b:Int)(m:Nat)(ws:List Int)(c:Int):Prop where
 len:ws.length=m
 pln:Pln m (Ld.at' ws) c
 same:zP n f b m (Ld.at' ws) c
 mn:m∣n
 cb:c∣b
theorem told {n:Nat}{a b:List Int}{β:Int}(n1:1≤n)(la:a.length=n)(lb:b.length=n)(bv:∀ x,Ld.at' b x=rst n (Ld.at' a) x)(hβ:β≠0) :
  ∃ s m:Nat,Dv n (hs b n)=s∧0 < s∧0 < m∧n=m*s∧(n:Int)/s=m ∧
   ∀ h:Int,(h=if β < 0 then -Dv β (wts b m s) else Dv β (wts b m s))→h≠0∧h∣β∧(∀ x∈wts b m s,h∣x)∧h.natAbs≤β.natAbs∧Tp n (Ld.at' a) β m ((wts b m s).map (· / h)) (β/h):=by
 have hs0:=Dv_nonneg n (hs b n)
 obtain⟨s,es⟩:=Int.eq_ofNat_of_zero_le hs0
 have sd:=(Dv_dvd (n:Int) (hs b n)).1
 rw[es] at sd
 have sdn:s∣n:=Int.natCast_dvd_natCast.mp sd
 have s1:0 < s:=by
  rcases Nat.eq_zero_or_pos s with z | z
  ·subst z;have:=Nat.eq_zero_of_zero_dvd sdn;omega
  ·exact z
 obtain⟨m,em⟩:=sdn
 have m1:0 < m:=by
  rcases Nat.eq_zero_or_pos m with z | z
  ·subst z;rw[Nat.mul_zero] at em;omega
  ·exact z
 have em':n=m*s:=by rw[em,Nat.mul_comm]
 refine⟨s,m,es,s1,m1,em',?_,?_⟩
 ·rw[em'];push_cast;exact Int.mul_ediv_cancel _ (by omega)
 intro h eh
 have D:=Dv_dvd β (wts b m s)
 have d0:=Dv_nonneg β (wts b m s)
 have dz:Dv β (wts b m s)≠0:=fun z=>by rw[z] at D;exact hβ (Int.zero_dvd.mp D.1)
 have hd:∀ x,h∣x↔Dv β (wts b m s)∣x:=fun x=>by
  rw[eh];split
  ·exact Int.neg_dvd
  ·exact Iff.rfl
 have hd':∀ x,x∣h↔x∣Dv β (wts b m s):=fun x=>by
  rw[eh];split
  ·exact Int.dvd_neg
  ·exact Iff.rfl
 have h0:h≠0:=by rw[eh];split <;> omega
 have hβd:h∣β:=(hd _).mpr D.1
 have per:Ld.Per n (rst n (Ld.at' a)):=rst_per n1 (Ld.vG la)
 have gs:∀ k,rst n (Ld.at' a) k≠0→(s:Int)∣k:=fun k hk=>by
  have k0:=Int.emod_nonneg k (show (n:Int)≠0 by omega)
  have k1:=Int.emod_lt_of_pos k (show 0 < (n:Int) by omega)
  have mem:k%n∈hs b n:=hs_mem.mpr ⟨k0,k1,by rw[bv,per.md];exact hk⟩
  have:=(Dv_dvd (n:Int) (hs b n)).2 _ mem
  rw[es] at this
  have e:k=k%n+n*(k/n):=(Int.emod_add_mul_ediv k n).symm
  rw[e]
  exact Int.dvd_add this (Int.dvd_mul_of_dvd_left sd)
 have wv:∀ k,Ld.at' (wts b m s) k=rst n (Ld.at' a) (s*k):=fun k=>by rw[wts_at m1 (by rw[lb];exact em'),bv]
 have wmem:∀ k,rst n (Ld.at' a) (s*k)∈wts b m s:=fun k=>by
  rw[← wv]
  have:=Ld.zAz (a:=wts b m s) (x:=k) (by rw[zCo];omega)
  exact List.mem_of_getElem? this
 have wmem':∀ x∈wts b m s,∃ k,x=rst n (Ld.at' a) k:=fun x hx=>by
  unfold wts at hx
  obtain⟨t,_,e⟩:=List.mem_map.mp hx
  exact⟨_,by rw[← e,bv]⟩
 have hw:∀ k,h∣rst n (Ld.at' a) k:=fun k=>by
  by_cases z:rst n (Ld.at' a) k=0
  ·rw[z];exact Int.dvd_zero _
  ·obtain⟨y,hy⟩:=gs k z
   rw[hy];exact (hd _).mpr (D.2 _ (wmem y))
 have pos:1≤β/h:=by
  obtain⟨z,hz⟩:=hβd
  have e:β/h=z:=by rw[hz];exact Int.mul_ediv_cancel_left _ h0
  rw[e]
  by_cases c:β < 0
  ·rw[if_pos c] at eh
   have hn:h < 0:=by omega
   rcases Int.lt_or_le z 1 with q | q
   ·have:=Int.mul_nonneg_of_nonpos_of_nonpos (show h≤0 by omega) (show z≤0 by omega);omega
   ·exact q
  ·rw[if_neg c] at eh
   have hn:0 < h:=by omega
   rcases Int.lt_or_le z 1 with q | q
   ·have:=Int.mul_nonpos_of_nonneg_of_nonpos (show 0≤h by omega) (show z≤0 by omega);omega
   ·exact q
 have T:=tell (N:=n) (n:=m) (g:=s) (f:=Ld.at' a) (b:=β) (h:=h) n1 (Ld.vG la) s1 em gs (fun d d1 d2=>by
   rw[← es]
   refine Dv_max d1 fun x hx=>?_
   obtain⟨x0,x1,x2⟩:=hs_mem.mp hx
   exact d2 x (by rw[← bv];exact x2)) h0 hβd hw (fun d d1 d2=>(hd' _).mpr (Dv_max d1 fun x hx=>by
   obtain⟨k,hk⟩:=wmem' x hx
   rw[hk];exact d2 k)) pos
 have ev:Ld.at' ((wts b m s).map (· / h))=fun k=>rst n (Ld.at' a) (s*k)/h:=funext fun k=>by
  rw[← wv]
  unfold Ld.at'
  rw[List.length_map]
  have lt:(k%(wts b m s).length).toNat < (wts b m s).length:=Ld.zBg (by rw[zCo];omega) k
  simp only [List.getD_eq_getElem?_getD,List.getElem?_map,List.getElem?_eq_getElem lt]
  rfl
 refine⟨h0,hβd,fun x hx=>(hd _).mpr (D.2 x hx),Nat.le_of_dvd (by omega) (Int.natAbs_dvd_natAbs.mpr hβd),⟨by rw[List.length_map,zCo],?_,?_,⟨s,em'⟩,?_⟩⟩
 ·rw[ev];exact T.1
 ·rw[ev];exact T.2
 ·obtain⟨z,hz⟩:=hβd
  exact⟨h,by rw[hz,Int.mul_ediv_cancel_left _ h0,Int.mul_comm]⟩
theorem abs_div (x h:Int):(x/h).natAbs≤x.natAbs:=Int.natAbs_ediv_le_natAbs x h
theorem told_bd {n:Nat}{a b:List Int}{ps:List (Int×Int)}{l:List ((Int×Int)×Int)}{B m s:Nat}(hl:Ld' n ps l)(n2:n≤420)(ha:Ld.Bd (2^B) a)(bv:∀ x,Ld.at' b x=R n l (Ld.at' a) x)(h:Int):Ld.Bd (2^(8+B)) ((wts b m s).map (· / h)):=fun x hx=>by
 obtain⟨y,hy,e⟩:=List.mem_map.mp hx
 unfold wts at hy
 obtain⟨t,_,et⟩:=List.mem_map.mp hy
 have:=Ld.at_bd (hl.bd n2 ha bv) (((0:Nat):Int)+(t:Int)*s)
 rw[et] at this
 have h2:=abs_div y h
 rw[← e]
 exact Nat.le_trans h2 this
theorem Tp.uniq {n n':Nat}{f f':Int→Int}{b b':Int}{m m':Nat}{ws ws':List Int}{c c':Int}(h:Tp n f b m ws c)(h':Tp n' f' b' m' ws' c')(n1:1≤n)(n1':1≤n')(hb:b≠0)(hb':b'≠0)(s:zP n f b n' f' b'):m=m'∧ws=ws'∧c=c':=by
 have s2:zP m (Ld.at' ws) c m' (Ld.at' ws') c':=zP.trans h.pln.n1 n1' h'.pln.n1 hb' (zP.trans h.pln.n1 n1 n1' hb h.same.symm s) h'.same
 obtain⟨e1,e2,e3⟩:=h.pln.uniq h'.pln s2
 refine⟨e1,Ld.ext (by rw[h.len,h'.len,e1]) fun k _=>congrFun e2 k,e3⟩
theorem Tp.back {n n':Nat}{f f':Int→Int}{b b':Int}{m m':Nat}{ws ws':List Int}{c c':Int}(h:Tp n f b m ws c)(h':Tp n' f' b' m' ws' c')(n1:1≤n)(n1':1≤n')(e1:m=m')(e2:ws=ws')(e3:c=c'):zP n f b n' f' b':=by
 subst e1;subst e2;subst e3
 have c1:=h.pln.c1
 exact zP.trans n1 h.pln.n1 n1' (by omega) h.same h'.same.symm
theorem Tp.iff {n n':Nat}{f f':Int→Int}{b b':Int}{m m':Nat}{ws ws':List Int}{c c':Int}(h:Tp n f b m ws c)(h':Tp n' f' b' m' ws' c')(n1:1≤n)(n1':1≤n')(hb:b≠0)(hb':b'≠0):(m=m'∧ws=ws'∧c=c')↔zP n f b n' f' b' :=
 ⟨fun e=>h.back h' n1 n1' e.1 e.2.1 e.2.2,fun s=>h.uniq h' n1 n1' hb hb' s⟩
end Vl
namespace Vl
open Rt (fF Ld' R)
open Pt (Parts)
theorem at_fin_fF {a:List Int}{q:Nat}(hn:0 < a.length)(hq:0 < q):Ld.at' (Ld.fin a q)=fF q (Ld.at' a):=funext fun x=>Ld.at_fin hn hq x
theorem zFw {a:List Int}(hn:0 < a.length)(m:Int):Ld.at' (Ld.scaled a m)=fun x=>m*Ld.at' a x:=funext fun x=>by rw[Ld.at_scaled hn,Int.mul_comm]
theorem nlt_mul {a b:Int}{A B:Nat}(ha:a.natAbs < 2^A)(hb:b.natAbs < 2^B):(a*b).natAbs < 2^(A+B):=by
 rw[Int.natAbs_mul,Nat.pow_add]
 exact Nat.mul_lt_mul'' ha hb
theorem mul_ne {a b:Int}(ha:a≠0)(hb:b≠0):a*b≠0:=fun z=>(Int.mul_eq_zero.mp z).elim ha hb
end Vl
namespace Rt
end Rt
namespace Vl
open Rt (fF Ld' R)
open Pt (Parts)
end Vl
namespace Vl
open Rt (fF)
open Rt (fF Ld' R)
open Pt (Parts)
theorem Tp.mk' {J m:Nat}{f:Int→Int}{b c:Int}{ws:List Int}(J1:1≤J)(hb:b≠0)(len:ws.length=m)(p:Pln m (Ld.at' ws) c)(s:zP J f b m (Ld.at' ws) c):Tp J f b m ws c:=by
 refine⟨len,p,s,Int.natCast_dvd_natCast.mp (own_dvd p J1 hb s.symm),?_⟩
 have c1:=p.c1
 have m1:=p.n1
 refine wY (P:=fun y=>∃ k,Ld.at' ws k=y) (by omega) (fun z hz hk=>p.cw z hz fun k=>hk _ ⟨k,rfl⟩) fun y ⟨k,hk⟩=>?_
 unfold zP at s
 rw[p.fix] at s
 have e:=congrFun s (J*k)
 rw[fF_at J1] at e
 rw[← hk]
 exact⟨_,e.symm⟩
theorem Tp.of {n J m:Nat}{f g:Int→Int}{b d c:Int}{ws:List Int}(h:Tp n f b m ws c)(n1:1≤n)(J1:1≤J)(hb:b≠0)(hd:d≠0)(s:zP n f b J g d):Tp J g d m ws c :=
 Tp.mk' J1 hd h.len h.pln (zP.trans J1 n1 h.pln.n1 hb s.symm h.same)
theorem fF_lin (p:Nat)(f g:Int→Int)(a b:Int):fF p (fun x=>a*f x+b*g x)=fun x=>a*fF p f x+b*fF p g x:=by
 rw[Rt.fF_add,jQ,jQ]
theorem per_fF {n p:Nat}(hp:1≤p){f:Int→Int}(hf:Ld.Per n f):Ld.Per (p*n) (fF p f):=fun x y e=>by
 obtain⟨e1,e2⟩:=Ld.div_mod hp e
 unfold fF
 rw[e1,hf _ _ e2]
theorem per_lin {J:Nat}{f g:Int→Int}(hf:Ld.Per J f)(hg:Ld.Per J g)(a b:Int):Ld.Per J fun x=>a*f x+b*g x:=fun x y e=>by
 show a*f x+b*g x=_
 rw[hf x y e,hg x y e]
theorem up {J l m p q:Nat}(l1:1≤l)(m1:1≤m)(p1:1≤p)(q1:1≤q)(el:l=q*m)(eJ:J=p*l){f:Int→Int}{b c:Int}{ws:List Int}(hc:c≠0)(lw:ws.length=m)(s:zP J f b m (Ld.at' ws) c):zP J f b J (fF p (Ld.at' (Ld.fin ws q))) c:=by
 have J1:1≤J:=by rw[eJ];exact Nat.mul_pos p1 l1
 have s1:=jH m1 q1 (Ld.vG lw) c
 have s2:=jH l1 p1 (f:=fF q (Ld.at' ws)) (by rw[el];exact per_fF q1 (Ld.vG lw)) c
 rw[← el] at s1
 rw[← eJ] at s2
 rw[at_fin_fF (by omega) q1]
 exact zP.trans J1 l1 J1 hc (zP.trans J1 m1 l1 hc s s1) s2
theorem Tp.sum {J l m m' p q q' M:Nat}{f g:Int→Int}{b d c c' C:Int}{ws ws' W:List Int}(h:Tp J f b m ws c)(h':Tp J g d m' ws' c')(l1:1≤l)(p1:1≤p)(q1:1≤q)(q1':1≤q')(el:l=q*m)(el':l=q'*m')(eJ:J=p*l)(hb:b≠0)(hd:d≠0)
  (T:Tp l (Ld.at' (Ld.plus (Ld.scaled (Ld.fin ws q) c') (Ld.scaled (Ld.fin ws' q') c))) (c*c') M W C):Tp J (fun x=>d*f x+b*g x) (b*d) M W C:=by
 have J1:1≤J:=by rw[eJ];exact Nat.mul_pos p1 l1
 have c1:=h.pln.c1
 have c1':=h'.pln.c1
 have lf:(Ld.fin ws q).length=l:=by rw[Ld.j6,h.len,el]
 have lf':(Ld.fin ws' q').length=l:=by rw[Ld.j6,h'.len,el']
 have u1:=up l1 h.pln.n1 p1 q1 el eJ (by omega) h.len h.same
 have u2:=up l1 h'.pln.n1 p1 q1' el' eJ (by omega) h'.len h'.same
 have s:=same_sum J1 u1 u2
 have eF:Ld.at' (Ld.plus (Ld.scaled (Ld.fin ws q) c') (Ld.scaled (Ld.fin ws' q') c))=fun x=>c'*Ld.at' (Ld.fin ws q) x+c*Ld.at' (Ld.fin ws' q') x:=funext fun x=>by
  rw[Ld.at_plus (by rw[Ld.wH,Ld.wH,lf,lf']) (by rw[Ld.wH];omega),zFw (by omega),zFw (by omega)]
 rw[eF] at T
 have pF:Ld.Per l fun x=>c'*Ld.at' (Ld.fin ws q) x+c*Ld.at' (Ld.fin ws' q') x:=per_lin (Ld.vG lf) (Ld.vG lf') _ _
 have s2:=jH l1 p1 pF (c*c')
 rw[← eJ,fF_lin] at s2
 exact T.of l1 J1 (mul_ne (by omega) (by omega)) (mul_ne hb hd) (zP.trans l1 J1 J1 (mul_ne (by omega) (by omega)) s2 s.symm)
theorem Tp.whole {J:Nat}(J1:1≤J)(k:Int):Tp J (fun x=>k*dlt J 0 x) 1 1 [k] 1:=by
 have e:Ld.at' [k]=fun _=>k:=funext fun x=>by
  have e1:x%(([k]:List Int).length:Int)=0:=by show x%(1:Int)=0;exact Int.emod_one x
  unfold Ld.at'
  rw[e1];rfl
 refine Tp.mk' J1 (by decide) rfl (by rw[e];exact whole_pln k) ?_
 rw[e]
 have s:=jH (N:=1) (p:=J) (Nat.le_refl 1) J1 (f:=fun _=>k) (fun _ _ _=>rfl) 1
 rw[Nat.mul_one,fin_1] at s
 exact s.symm
theorem lcm_of {J m m':Nat}(J1:1≤J)(h:m∣J)(h':m'∣J):∃ l p q q':Nat,Nat.lcm m m'=l∧1≤l∧1≤p∧1≤q∧1≤q'∧l=q*m∧l=q'*m'∧J=p*l:=by
 obtain⟨p,hp⟩:=Nat.lcm_dvd h h'
 obtain⟨q,hq⟩:=Nat.dvd_lcm_left m m'
 obtain⟨q',hq'⟩:=Nat.dvd_lcm_right m m'
 have z:∀ {x:Nat},¬ x=0→1≤x:=fun h=>Nat.pos_of_ne_zero h
 have l0:¬ Nat.lcm m m'=0:=fun z=>by rw[z,Nat.zero_mul] at hp;omega
 refine⟨Nat.lcm m m',p,q,q',rfl,z l0,z fun e=>?_,z fun e=>?_,z fun e=>?_,by rw[Nat.mul_comm];exact hq,by rw[Nat.mul_comm];exact hq',by rw[Nat.mul_comm];exact hp⟩
 ·rw[e,Nat.mul_zero] at hp;omega
 ·rw[e,Nat.mul_zero] at hq;exact l0 hq
 ·rw[e,Nat.mul_zero] at hq';exact l0 hq'
theorem joint_eq (m m':Nat):(m:Int)/Eh.G m m'*m'=(Nat.lcm m m':Nat):=by
 unfold Eh.G
 rw[show Int.gcd (m:Int) (m':Int)=Nat.gcd m m' from rfl,← Int.natCast_ediv,← Int.natCast_mul]
 congr 1
 unfold Nat.lcm
 rw[Nat.div_mul_right_comm]
 exact Nat.gcd_dvd_left m m'
end Vl
namespace Vl
open Rt (fF)
theorem cb_lt {n m:Nat}{f:Int→Int}{b c:Int}{ws:List Int}{C:Nat}(t:Tp n f b m ws c)(b0:b≠0)(h:b.natAbs < 2^C):c.natAbs < 2^C:=Nat.lt_of_le_of_lt (Nat.le_of_dvd (by omega) (Int.natAbs_dvd_natAbs.mpr t.cb)) h
theorem div_of {n e:Nat}(n1:1≤n)(d:e∣n):∃ p,n=p*e∧1≤p:=by
 obtain⟨p,hp⟩:=d
 refine⟨p,by rw[hp,Nat.mul_comm],Nat.pos_of_ne_zero fun z=>?_⟩
 rw[z,Nat.mul_zero] at hp;omega
end Vl
namespace Vl
open Rt (fF)
theorem cv_comm {J:Nat}(J1:1≤J){f g:Int→Int}(hf:Ld.Per J f)(hg:Ld.Per J g):Rt.cv J f g=Rt.cv J g f:=funext fun x=>by
 have h:=Ld.S_refl (n:=J) J1 (F:=fun j=>f j*g (x-j)) (Ld.per_mul hf (Ld.zDx hg x)) x
 unfold Rt.cv
 rw[← h]
 refine Ld.wL fun j _=>?_
 show f (x-j)*g (x-(x-j))=g j*f (x-j)
 rw[Int.mul_comm,show x-(x-(j:Int))=j by omega]
theorem dlt0_per (J:Nat)(k:Int):Ld.Per J fun x=>k*dlt J 0 x:=fun x y e=>by show k*_=k*_;rw[dlt_per J 0 x y e]
end Vl
namespace Vl
open Rt (fF)
end Vl
namespace Vl
open Rt (fF)
theorem inv_dvd {J p:Nat}{s v:Int}(h:p∣J)(hv:(s*v)%J=1%J):(s*v)%p=1%p:=by
 have d:((J:Nat):Int)∣s*v-1:=Int.dvd_of_emod_eq_zero (Int.emod_eq_emod_iff_emod_sub_eq_zero.mp hv)
 exact Int.emod_eq_emod_iff_emod_sub_eq_zero.mpr (Int.emod_eq_zero_of_dvd (Int.dvd_trans (Int.natCast_dvd_natCast.mpr h) d))
theorem Tp.side {J m M:Nat}{f:Int→Int}{b c D st v:Int}{ws o W:List Int}(h:Tp J f b m ws c)(hf:Ld.Per J f)(J1:1≤J)(hb:b≠0)(hv:(st*v)%J=1%J)(lo:o.length=m)(ho:∀ x,Ld.at' o x=Ld.at' ws (x*v))(T:Tp m (Ld.at' o) c M W D):Tp J (fun x=>f (x*v)) b M W D:=by
 have m1:=h.pln.n1
 have c1:=h.pln.c1
 obtain⟨p,ep,p1⟩:=div_of J1 h.mn
 have s1:=jH m1 p1 (Ld.vG h.len) c
 rw[← ep] at s1
 have pw:Ld.Per J (fF p (Ld.at' ws)):=by rw[ep];exact per_fF p1 (Ld.vG h.len)
 have s2:=zDs J1 hf pw (zP.trans J1 m1 J1 (by omega) h.same s1) v
 have hp:(v*st)%p=1%p:=by rw[Int.mul_comm];exact inv_dvd ⟨m,by rw[ep]⟩ hv
 rw[fin_skip (n:=m) p1 hp] at s2
 have eo:Ld.at' o=fun x=>Ld.at' ws (x*v):=funext ho
 have s3:=jH m1 p1 (Ld.vG lo) c
 rw[← ep,eo] at s3
 rw[eo] at T
 exact T.of m1 J1 (by omega) hb (zP.trans m1 J1 J1 (by omega) s3 s2.symm)
end Vl
namespace Vl
theorem inv_mul {J:Nat}{s v t y:Int}(h:(s*v)%J=1%J)(g:(t*y)%J=1%J):(s*t*(y*v))%J=1%J:=by
 rw[show s*t*(y*v)=(s*v)*(t*y) by grind,Int.mul_emod,h,g,← Int.mul_emod,Int.mul_one]
end Vl
namespace Vl
theorem own_bot {n:Nat}{w g:Int→Int}{c d:Int}(h:Pln n w c)(s:zP n w c n g d):c∣d:=by
 have hn:=h.n1
 have hc:=h.c1
 refine wY (P:=fun z=>∃ k,w k=z) (by omega) (fun e de he=>h.cw e de fun k=>he _ ⟨k,rfl⟩) ?_
 rintro z ⟨k,rfl⟩
 unfold zP at s
 rw[h.fix] at s
 have e:=congrFun s (n*k)
 rw[fF_at hn,fF_at hn] at e
 exact⟨_,e⟩
theorem side_bot {n:Nat}{w u:Int→Int}{c d:Int}(h:Pln n w c)(g:Pln n u d){st v:Int}(hu:(st*v)%n=1%n)(s:zP n (fun x=>w (x*v)) c n u d)(dc:d∣c):d=c:=by
 have s2:=zDs h.n1 (zCa h.per v) g.per s st
 have e1:(fun x=>w (x*st*v))=w:=funext fun x=>h.per _ _ (by rw[Int.mul_assoc,Int.mul_emod,hu,← Int.mul_emod,Int.mul_one])
 try dsimp only at s2
 rw[e1] at s2
 have cd:=own_bot h s2
 have:=h.c1
 have:=g.c1
 exact Int.dvd_antisymm (by omega) (by omega) dc cd
theorem Tp.own {m M:Nat}{ws o W:List Int}{c D st:Int}(p:Pln m (Ld.at' ws) c)(g:Eh.G st m=1)(sk:Ld.Skp m st ws o)(t:Tp m (Ld.at' o) c M W D):M=m∧D=c:=by
 obtain⟨v,hv⟩:=Ld.zCb p.n1 g
 have e:Ld.at' o=fun x=>Ld.at' ws (x*v):=funext fun x=>sk.val hv x
 have s:=t.same
 rw[e] at s
 have em:=side_same p t.pln hv s
 subst em
 exact⟨rfl,side_bot p t.pln hv s t.cb⟩
theorem Skp.one {m:Nat}{a o p:List Int}{st:Int}(m1:1≤m)(g:Eh.G st m=1)(h:Ld.Skp m st a o)(k:Ld.Skp m st a p):Ld.at' o=Ld.at' p:=by
 obtain⟨v,hv⟩:=Ld.zCb m1 g
 exact funext fun x=>by rw[h.val hv,k.val hv]
end Vl
namespace Pg
theorem pigeon:∀ {M N:Nat}(f:Nat→Nat),M < N→(∀ i,i < N→f i < M)→∃ i j,i < j∧j < N∧f i=f j
 | 0,N,f,h,lt=>absurd (lt 0 h) (Nat.not_lt_zero _)
 | M+1,0,f,h,lt=>absurd h (Nat.not_lt_zero _)
 | M+1,N+1,f,h,lt=>by
  -- the value of the last one is taken out
  by_cases c:∃ i,i < N∧f i=f N
  ·obtain⟨i,hi,e⟩:=c
   exact⟨i,N,hi,Nat.lt_succ_self N,e⟩
  ·let g:Nat→Nat:=fun i=>if f i=M then f N else f i
   have gl:∀ i,i < N→g i < M:=fun i hi=>by
    have a:=lt i (Nat.lt_succ_of_lt hi)
    have b:=lt N (Nat.lt_succ_self N)
    show (if f i=M then f N else f i) < M
    by_cases z:f i=M
    ·rw[if_pos z]
     have:f N≠M:=fun y=>c ⟨i,hi,z.trans y.symm⟩
     omega
    ·rw[if_neg z];omega
   obtain⟨i,j,ij,jN,e⟩:=pigeon g (show M < N by omega) gl
   refine⟨i,j,ij,Nat.lt_succ_of_lt jN,?_⟩
   have e':(if f i=M then f N else f i)=if f j=M then f N else f j:=e
   by_cases zi:f i=M
   ·by_cases zj:f j=M
    ·rw[zi,zj]
    ·rw[if_pos zi,if_neg zj] at e'
     exact absurd ⟨j,jN,e'.symm⟩ c
   ·by_cases zj:f j=M
    ·rw[if_neg zi,if_pos zj] at e'
     exact absurd ⟨i,Nat.lt_trans ij jN,e'⟩ c
    ·rwa [if_neg zi,if_neg zj] at e'
end Pg
namespace Vl
open Rt
section
variable {β:Type} [DecidableEq β]
def ded (l:List β):List β:=l.foldl (fun acc a=>if a∈acc then acc else acc ++ [a]) []
theorem zBr (l:List β)(a:β):ded (l ++ [a])=if a∈ded l then ded l else ded l ++ [a]:=by unfold ded;rw[List.foldl_append];rfl
theorem snoc_ind {P:List β→Prop}(h0:P [])(h1:∀ l a,P l→P (l ++ [a]))(l:List β):P l:=by
 have:∀ l:List β,P l.reverse:=fun l=>by
  induction l with
  | nil=>exact h0
  | cons a l ih=>rw[List.reverse_cons];exact h1 _ _ ih
 have:=this l.reverse
 rwa [List.reverse_reverse] at this
theorem j9 (a:β)(l:List β):a∈ded l↔a∈l:=by
 refine snoc_ind (P:=fun l=>a∈ded l↔a∈l) (by simp [ded]) (fun l b ih=>?_) l
 rw[zBr]
 by_cases h:b∈ded l
 ·rw[if_pos h,ih,List.mem_append,List.mem_singleton]
  refine⟨.inl,fun z=>z.elim id fun e=>?_⟩
  subst e;exact ih.mp h
 ·rw[if_neg h,List.mem_append,List.mem_append,ih]
theorem nd_snoc' {l:List β}{a:β}(h:l.Nodup)(n:¬ a∈l):(l ++ [a]).Nodup:=List.nodup_append.mpr ⟨h,by simp,fun x hx y hy e=>n (by rw[List.mem_singleton.mp hy] at e;rw[← e];exact hx)⟩
theorem zDn (l:List β):(ded l).Nodup:=by
 refine snoc_ind (P:=fun l=>(ded l).Nodup) (by simp [ded]) (fun l b ih=>?_) l
 rw[zBr]
 split
 ·exact ih
 ·rename_i h;exact nd_snoc' ih h
theorem ded_le (l:List β):(ded l).length≤l.length:=(zDn l).length_le_of_subset fun a h=>(j9 a l).mp h
theorem sum_app (a b:List Int):(a ++ b).sum=a.sum+b.sum:=by
 induction a with
 | nil=>simp
 | cons x a ih=>rw[List.cons_append,List.sum_cons,List.sum_cons,ih];omega
theorem zFp (F:β→Int)(a:β):∀ {l:List β},l.Nodup→a∈l→(l.map fun x=>if x=a then F x else 0).sum=F a
 | [],_,h=>(nomatch h)
 | b::l,n,h=>by
  have n1:=List.nodup_cons.mp n
  rw[List.map_cons,List.sum_cons]
  by_cases e:b=a
  ·subst e
   rw[if_pos rfl]
   have z:(l.map fun x=>if x=b then F x else 0)=l.map fun _=>0:=List.map_congr_left fun x hx=>if_neg fun (e:x=b)=>n1.1 (by rw[← e];exact hx)
   rw[z,zAe];omega
  ·rw[if_neg e,zFp F a n1.2 ((List.mem_cons.mp h).resolve_left (Ne.symm e))];omega
theorem map_add (F G:β→Int):∀ l:List β,(l.map fun x=>F x+G x).sum=(l.map F).sum+(l.map G).sum
 | []=>rfl
 | a::l=>by simp only [List.map_cons,List.sum_cons,map_add F G l];omega
theorem map_mul (c:Int)(F:β→Int):∀ l:List β,(l.map fun x=>c*F x).sum=c*(l.map F).sum
 | []=>by simp
 | a::l=>by simp only [List.map_cons,List.sum_cons,map_mul c F l,Int.mul_add]
theorem sum_ded [BEq β] [LawfulBEq β] (F:β→Int)(l:List β):(l.map F).sum=((ded l).map fun x=>(l.count x:Int)*F x).sum:=by
 refine snoc_ind (P:=fun l=>(l.map F).sum=((ded l).map fun x=>(l.count x:Int)*F x).sum) rfl (fun l b ih=>?_) l
 rw[List.map_append,sum_app,ih,zBr]
 have c:∀ x,((l ++ [b]).count x:Int)*F x=(l.count x:Int)*F x+if x=b then F x else 0:=fun x=>by
  rw[List.count_append,List.count_singleton]
  by_cases e:x=b
  ·subst e;simp [Int.add_mul]
  ·have:(b == x)=false:=by simpa using fun z=>e z.symm
   rw[if_neg e,this];simp
 by_cases h:b∈ded l
 ·rw[if_pos h,List.map_congr_left fun x _=>c x,map_add,zFp F b (zDn l) h];simp
 ·rw[if_neg h,List.map_append,sum_app,List.map_congr_left fun x _=>c x,map_add]
  have z:((ded l).map fun x=>if x=b then F x else 0)=(ded l).map fun _=>0:=List.map_congr_left fun x hx=>if_neg fun (e:x=b)=>h (by rw[← e];exact hx)
  have cb:l.count b=0:=List.count_eq_zero.mpr fun z=>h ((j9 b l).mpr z)
  rw[z,zAe]
  simp only [List.map_cons,List.map_nil,List.sum_cons,List.sum_nil]
  rw[c b,if_pos rfl,cb];simp
end
theorem uq {n:Nat}{x y:Int}(hx:1≤x∧x≤n)(hy:1≤y∧y≤n)(h:x%n=y%n):x=y:=by
 have d:(n:Int)∣x-y:=Int.dvd_of_emod_eq_zero (Int.emod_eq_emod_iff_emod_sub_eq_zero.mp h)
 have d':(n:Int)∣y-x:=Int.dvd_of_emod_eq_zero (Int.emod_eq_emod_iff_emod_sub_eq_zero.mp h.symm)
 rcases Int.lt_trichotomy x y with l | e | l
 ·have:=Int.le_of_dvd (by omega) d';omega
 ·exact e
 ·have:=Int.le_of_dvd (by omega) d;omega
theorem mem_us {n:Nat}(k:Int):k∈Eh.us n n↔1≤k∧k≤n∧Eh.G k n=1:=by
 refine⟨Ld.us_mem,fun ⟨h1,h2,h3⟩=>?_⟩
 unfold Eh.us
 refine List.mem_filter.mpr ⟨List.mem_map.mpr ⟨(k-1).toNat,List.mem_range.mpr (by omega),by omega⟩,decide_eq_true h3⟩
theorem nd_us (n:Nat):(Eh.us n n).Nodup:=by
 unfold Eh.us
 refine List.Nodup.sublist List.filter_sublist ?_
 rw[List.nodup_iff_pairwise_ne,List.pairwise_map]
 exact List.nodup_range.imp fun h e=>h (by omega)
noncomputable def iv (n:Nat)(u:Int):Int:=open Classical in if h:∃ v:Int,(u*v)%n=1%n then Classical.choose h else 0
theorem iv_of {n:Nat}{u v:Int}(h:(u*v)%n=1%n):(u*iv n u)%n=1%n:=by
 have e:∃ v:Int,(u*v)%n=1%n:=⟨v,h⟩
 unfold iv;rw[dif_pos e];exact Classical.choose_spec e
theorem zEi {n:Nat}(hn:1≤n){u:Int}(h:u∈Eh.us n n):(u*iv n u)%n=1%n:=let ⟨_,e⟩:=Ld.zCb hn ((mem_us u).mp h).2.2;iv_of e
def mm (n:Nat)(a b:Int):Int:=(a*b-1)%n+1
theorem wJ (n:Nat)(a b:Int):mm n a b%n=(a*b)%n:=by unfold mm;rw[Int.emod_add_emod,Int.sub_add_cancel]
theorem mm_rg {n:Nat}(hn:1≤n)(a b:Int):1≤mm n a b∧mm n a b≤n:=by
 unfold mm
 have:=Int.emod_nonneg (a*b-1) (show (n:Int)≠0 by omega)
 have:=Int.emod_lt_of_pos (a*b-1) (show 0 < (n:Int) by omega)
 omega
theorem zW {n:Int}{a a' b b':Int}(h:a%n=a'%n)(k:b%n=b'%n):(a*b)%n=(a'*b')%n:=by rw[Int.mul_emod,h,k,← Int.mul_emod]
theorem us_of {n:Nat}{u v:Int}(r:1≤u∧u≤n)(h:(u*v)%n=1%n):u∈Eh.us n n:=(mem_us u).mpr ⟨r.1,r.2,Ld.zDj h⟩
theorem zBp {n:Nat}(hn:1≤n){a b:Int}(ha:a∈Eh.us n n)(hb:b∈Eh.us n n):mm n a b∈Eh.us n n:=by
 refine us_of (v:=iv n b*iv n a) (mm_rg hn a b) ?_
 rw[zW (wJ n a b) rfl]
 exact inv_mul (zEi hn ha) (zEi hn hb)
theorem j2 {n:Nat}(hn:1≤n):(1:Int)∈Eh.us n n:=us_of (v:=1) ⟨by omega,by omega⟩ rfl
theorem us_rg {n:Nat}{u:Int}(h:u∈Eh.us n n):1≤u∧u≤n:=⟨((mem_us u).mp h).1,((mem_us u).mp h).2.1⟩
noncomputable def vv (n:Nat)(u:Int):Int:=mm n 1 (iv n u)
theorem vv_us {n:Nat}(hn:1≤n){u:Int}(h:u∈Eh.us n n):vv n u∈Eh.us n n:=by
 refine us_of (v:=u) (mm_rg hn _ _) ?_
 unfold vv
 rw[zW (wJ n 1 (iv n u)) rfl,Int.one_mul,Int.mul_comm];exact zEi hn h
theorem vv_mm {n:Nat}(hn:1≤n){u:Int}(h:u∈Eh.us n n):(u*vv n u)%n=1%n:=by
 unfold vv
 rw[zW rfl (wJ n 1 (iv n u)),Int.one_mul];exact zEi hn h
end Vl
namespace Vl
open Rt
noncomputable def Aa (n:Nat)(w:Int→Int)(u:Int):Int→Int:=rst n fun y=>w (y*iv n u)
noncomputable def sl (n:Nat)(w:Int→Int)(u:Int):List Int:=Ld.tab n (Aa n w u)
theorem sl_len (n:Nat)(w:Int→Int)(u:Int):(sl n w u).length=n:=by unfold sl Ld.tab;simp
section
variable {n:Nat}(hn:1≤n){w:Int→Int}(hw:Ld.Per n w)
include hn hw
theorem Aa_of {u v:Int}(h:(u*v)%n=1%n):rst n (fun y=>w (y*v))=Aa n w u:=by
 unfold Aa
 congr 1
 funext y
 refine hw _ _ (zW rfl ?_)
 have e1:(v*(u*iv n u))%n=(v*1)%n:=zW rfl (iv_of h)
 have e2:((u*v)*iv n u)%n=(1*iv n u)%n:=zW h rfl
 rw[← Int.mul_assoc,Int.mul_comm v u,e2,Int.one_mul,Int.mul_one] at e1
 exact e1.symm
theorem Aa_per (u:Int):Ld.Per n (Aa n w u):=rst_per hn (zCa hw _)
theorem Aa_mul {u u' v v':Int}(hu:(u*v)%n=1%n)(hu':(u'*v')%n=1%n):rst n (fun y=>Aa n w u (y*v'))=Aa n w (mm n u u'):=by
 have e:(mm n u u'*(v'*iv n u))%n=1%n:=by rw[zW (wJ n u u') rfl];exact inv_mul (iv_of hu) hu'
 rw[← Aa_of hn hw e]
 show rst n (fun y=>rst n (fun y=>w (y*iv n u)) (y*v'))=_
 rw[← rst_skip hn (zCa hw (iv n u)) v']
 congr 1;funext y;rw[Int.mul_assoc]
theorem at_sl (u:Int):Ld.at' (sl n w u)=Aa n w u:=funext fun x=>Ld.at_tab hn (Aa_per hn hw u) x
theorem zFa {u u':Int}(hu:u∈Eh.us n n)(hu':u'∈Eh.us n n):sl n (Ld.at' (sl n w u)) u'=sl n w (mm n u u'):=by
 unfold sl
 rw[← Aa_mul hn hw (zEi hn hu) (zEi hn hu')]
 congr 1
 unfold Aa
 congr 1;funext y
 exact congrFun (at_sl hn hw u) _
theorem sl_mul {a b b':Int}(ha:a∈Eh.us n n)(hb:b∈Eh.us n n)(hb':b'∈Eh.us n n)(h:sl n w b=sl n w b'):sl n w (mm n b a)=sl n w (mm n b' a):=by
 rw[← zFa hn hw hb ha,← zFa hn hw hb' ha,h]
theorem sl_can {a b b':Int}(ha:a∈Eh.us n n)(hb:b∈Eh.us n n)(hb':b'∈Eh.us n n)(h:sl n w (mm n b a)=sl n w (mm n b' a)):sl n w b=sl n w b':=by
 have k:=sl_mul hn hw (vv_us hn ha) (zBp hn hb ha) (zBp hn hb' ha) h
 have e:∀ x,x∈Eh.us n n→mm n (mm n x a) (vv n a)=x:=fun x hx=>uq (mm_rg hn _ _) (us_rg hx) (by
  rw[wJ,zW (wJ n x a) rfl,Int.mul_assoc,zW (rfl:x%n=x%n) (vv_mm hn ha),Int.mul_one])
 rwa [e b hb,e b' hb'] at k
end
section
variable {n:Nat}(hn:1≤n)
include hn
theorem zAn {a b c:Int}(hc:c∈Eh.us n n)(h:(a*b)%n=c%n):mm n a b=c:=uq (mm_rg hn _ _) (us_rg hc) (by rw[wJ,h])
theorem mm_perm {g:Int}(hg:g∈Eh.us n n):((Eh.us n n).map fun u=>mm n u g).Perm (Eh.us n n):=by
 refine (List.perm_ext_iff_of_nodup ?_ (nd_us n)).mpr fun a=>⟨fun h=>?_,fun h=>?_⟩
 ·rw[List.nodup_iff_pairwise_ne,List.pairwise_map]
  refine (List.nodup_iff_pairwise_ne.mp (nd_us n)).imp_of_mem fun {a b} ha hb ne e=>ne ?_
  refine uq (us_rg ha) (us_rg hb) ?_
  have e1:(a*g)%n=(b*g)%n:=by rw[← wJ,← wJ,e]
  have e2:=zW e1 (rfl:iv n g%n=iv n g%n)
  rw[Int.mul_assoc,Int.mul_assoc,zW (rfl:a%n=a%n) (zEi hn hg),zW (rfl:b%n=b%n) (zEi hn hg),Int.mul_one,Int.mul_one] at e2
  exact e2
 ·obtain⟨u,hu,rfl⟩:=List.mem_map.mp h
  exact zBp hn hu hg
 ·refine List.mem_map.mpr ⟨mm n a (vv n g),zBp hn h (vv_us hn hg),zAn hn h ?_⟩
  rw[zW (wJ n a (vv n g)) rfl,Int.mul_assoc,Int.mul_comm (vv n g),zW (rfl:a%n=a%n) (vv_mm hn hg),Int.mul_one]
end
section
variable {n:Nat}(hn:1≤n){w:Int→Int}(hw:Ld.Per n w)
include hn hw
theorem sl_count {g:Int}(hg:g∈Eh.us n n):((Eh.us n n).map (sl n w)).count (sl n w g)=((Eh.us n n).map (sl n w)).count (sl n w 1):=by
 rw[← ((mm_perm hn hg).map (sl n w)).count_eq,List.map_map]
 unfold List.count
 rw[List.countP_map,List.countP_map]
 refine List.countP_congr fun u hu=>?_
 show (sl n w (mm n u g) == sl n w g)=true↔(sl n w u == sl n w 1)=true
 rw[beq_iff_eq,beq_iff_eq]
 have e:mm n 1 g=g:=zAn hn hg (by rw[Int.one_mul])
 constructor
 ·intro h
  exact sl_can hn hw hg hu (j2 hn) (by rw[e];exact h)
 ·intro h
  have:=sl_mul hn hw hg hu (j2 hn) h
  rwa [e] at this
theorem sides_sum (F:List Int→Int):((Eh.us n n).map fun u=>F (sl n w u)).sum=(((Eh.us n n).map (sl n w)).count (sl n w 1):Int)*((ded ((Eh.us n n).map (sl n w))).map F).sum:=by
 have e:=sum_ded F ((Eh.us n n).map (sl n w))
 rw[List.map_map] at e
 rw[show ((Eh.us n n).map fun u=>F (sl n w u))=(Eh.us n n).map (F∘sl n w) from rfl,e,← map_mul]
 congr 1
 refine List.map_congr_left fun W hW=>?_
 obtain⟨g,hg,rfl⟩:=List.mem_map.mp ((j9 _ _).mp hW)
 rw[sl_count hn hw hg]
theorem sides_len:((Eh.us n n).length:Int)=(((Eh.us n n).map (sl n w)).count (sl n w 1):Int)*((ded ((Eh.us n n).map (sl n w))).length:Int):=by
 have e:=sides_sum hn hw (fun _=>1)
 rw[zAe,zAe,Int.mul_one,Int.mul_one] at e
 exact e
end
def pw (n:Nat)(s:Int):Nat→Int
 | 0=>1
 | i+1=>mm n (pw n s i) s
theorem pw_md (n:Nat)(s:Int):∀ i,pw n s i%n=s^i%n
 | 0=>by simp [pw]
 | i+1=>by
  show mm n (pw n s i) s%n=_
  rw[wJ,zW (pw_md n s i) rfl,Int.pow_succ]
theorem pw_us {n:Nat}(hn:1≤n){s:Int}(hs:s∈Eh.us n n):∀ i,pw n s i∈Eh.us n n
 | 0=>j2 hn
 | i+1=>zBp hn (pw_us hn hs i) hs
theorem pw_add {n:Nat}(hn:1≤n){s:Int}(hs:s∈Eh.us n n)(i j:Nat):(pw n s i*pw n s j)%n=pw n s (i+j)%n:=by
 rw[zW (pw_md n s i) (pw_md n s j),pw_md,Int.pow_add]
theorem pw_end {n:Nat}(hn:1≤n){s:Int}(hs:s∈Eh.us n n):∃ r,1≤r∧r≤n∧pw n s r=1:=by
 obtain⟨i,j,ij,jN,e⟩:=Pg.pigeon (M:=n) (N:=n+1) (fun i=>(pw n s i-1).toNat) (by omega) fun i _=>by
  have:=us_rg (pw_us hn hs i);omega
 have e:pw n s i=pw n s j:=by have:=us_rg (pw_us hn hs i);have:=us_rg (pw_us hn hs j);omega
 refine⟨j-i,by omega,by omega,uq (us_rg (pw_us hn hs _)) (us_rg (j2 hn)) ?_⟩
 have a:=pw_add hn hs i (j-i)
 rw[show i+(j-i)=j by omega,← e] at a
 have b:=zW (rfl:iv n (pw n s i)%n=iv n (pw n s i)%n) a
 have c:=zEi hn (pw_us hn hs i)
 rw[← Int.mul_assoc,Int.mul_comm (iv n _) (pw n s i),zW c rfl,c,Int.one_mul] at b
 exact b
end Vl
namespace Vl
open Rt
structure GI (n:Nat)(w:Int→Int)(gr:List Int)(L:List (List Int)):Prop where
 sub:∀ g∈gr,g∈Eh.us n n
 one:(1:Int)∈gr
 mul:∀ a∈gr,∀ b∈gr,mm n a b∈gr
 inv:∀ a∈gr,∃ b∈gr,(a*b)%n=1%n
 stab:∀ u∈Eh.us n n,sl n w u=sl n w 1→u∈gr
 nd:L.Nodup
 mem:∀ W,W∈L↔∃ g∈gr,W=sl n w g
def grN (n:Nat)(gr:List Int)(s:Int)(r:Nat):List Int:=(List.range r).flatMap fun i=>gr.map fun g=>mm n g (pw n s i)
noncomputable def Ln (n:Nat)(L:List (List Int))(s:Int)(r:Nat):List (List Int):=(List.range r).flatMap fun i=>L.map fun W=>sl n (Ld.at' W) (pw n s i)
theorem wN {n:Nat}{gr:List Int}{s:Int}{r:Nat}{x:Int}:x∈grN n gr s r↔∃ i,i < r∧∃ g∈gr,x=mm n g (pw n s i):=by
 unfold grN
 rw[List.mem_flatMap]
 constructor
 ·rintro⟨i,hi,h⟩
  obtain⟨g,hg,e⟩:=List.mem_map.mp h
  exact⟨i,List.mem_range.mp hi,g,hg,e.symm⟩
 ·rintro⟨i,hi,g,hg,e⟩
  exact⟨i,List.mem_range.mpr hi,List.mem_map.mpr ⟨g,hg,e.symm⟩⟩
section
variable {n:Nat}(hn:1≤n){w:Int→Int}(hw:Ld.Per n w){gr:List Int}{L:List (List Int)}
include hn hw
theorem GI.start (fx:rst n w=w):GI n w ((Eh.us n n).filter fun u=>decide (sl n w u=sl n w 1)) [sl n w 1]:=by
 have m:∀ {u},u∈((Eh.us n n).filter fun u=>decide (sl n w u=sl n w 1))↔u∈Eh.us n n∧sl n w u=sl n w 1:=fun {u}=>by rw[List.mem_filter,decide_eq_true_iff]
 refine⟨fun g h=>(m.mp h).1,m.mpr ⟨j2 hn,rfl⟩,fun a ha b hb=>?_,fun a ha=>?_,fun u hu e=>m.mpr ⟨hu,e⟩,by simp,fun W=>?_⟩
 ·obtain⟨a1,a2⟩:=m.mp ha
  obtain⟨b1,b2⟩:=m.mp hb
  refine m.mpr ⟨zBp hn a1 b1,?_⟩
  rw[sl_mul hn hw b1 a1 (j2 hn) a2,zAn hn b1 (by rw[Int.one_mul]),b2]
 ·obtain⟨a1,a2⟩:=m.mp ha
  refine⟨vv n a,m.mpr ⟨vv_us hn a1,?_⟩,vv_mm hn a1⟩
  have e:=sl_mul hn hw (vv_us hn a1) a1 (j2 hn) a2
  rw[zAn hn (j2 hn) (vv_mm hn a1),zAn hn (vv_us hn a1) (by rw[Int.one_mul])] at e
  exact e.symm
 ·rw[List.mem_singleton]
  constructor
  ·rintro rfl
   exact⟨1,m.mpr ⟨j2 hn,rfl⟩,rfl⟩
  ·rintro⟨g,hg,rfl⟩
   exact (m.mp hg).2
theorem GI.step (h:GI n w gr L){s:Int}(hs:s∈Eh.us n n){r:Nat}(r1:1≤r)(hr:pw n s r∈gr)(hl:∀ i,0 < i→i < r→¬ pw n s i∈gr):GI n w (grN n gr s r) (Ln n L s r):=by
 have pu:=pw_us hn hs
 have mu:∀ {g i},g∈gr→mm n g (pw n s i)∈Eh.us n n:=fun hg=>zBp hn (h.sub _ hg) (pu _)
 refine⟨?_,?_,?_,?_,?_,?_,?_⟩
 ·intro x hx
  obtain⟨i,_,g,hg,rfl⟩:=wN.mp hx
  exact mu hg
 ·refine wN.mpr ⟨0,by omega,1,h.one,(zAn hn (j2 hn) rfl).symm⟩
 ·intro x hx y hy
  obtain⟨i,hi,g,hg,rfl⟩:=wN.mp hx
  obtain⟨j,hj,k,hk,rfl⟩:=wN.mp hy
  have e:(mm n g (pw n s i)*mm n k (pw n s j))%n=(mm n g k*pw n s (i+j))%n:=by
   rw[zW (wJ n g _) (wJ n k _),zW (wJ n g k) (pw_add hn hs i j).symm]
   congr 1;ac_rfl
  rcases Nat.lt_or_ge (i+j) r with l | l
  ·exact wN.mpr ⟨i+j,l,mm n g k,h.mul g hg k hk,zAn hn (mu (h.mul g hg k hk)) (by rw[e,wJ])⟩
  ·have p:=h.mul _ (h.mul g hg k hk) _ hr
   refine wN.mpr ⟨i+j-r,by omega,_,p,zAn hn (mu p) ?_⟩
   rw[e,wJ,zW (wJ n (mm n g k) (pw n s r)) rfl,Int.mul_assoc,zW (rfl:mm n g k%n=_) (pw_add hn hs r (i+j-r)),show r+(i+j-r)=i+j by omega]
 ·intro x hx
  obtain⟨i,hi,g,hg,rfl⟩:=wN.mp hx
  obtain⟨g',hg',eg⟩:=h.inv g hg
  obtain⟨b,hb,eb⟩:=h.inv _ hr
  rcases Nat.eq_zero_or_pos i with z | z
  ·subst z
   refine⟨mm n g' (pw n s 0),wN.mpr ⟨0,by omega,g',hg',rfl⟩,?_⟩
   rw[zW (wJ n g _) (wJ n g' _)]
   show (g*1*(g'*1))%n=_
   rw[Int.mul_one,Int.mul_one,eg]
  ·have p:=h.mul _ hg' _ hb
   refine⟨mm n (mm n g' b) (pw n s (r-i)),wN.mpr ⟨r-i,by omega,_,p,rfl⟩,?_⟩
   rw[zW (wJ n g _) (wJ n _ _),zW (rfl:(g*pw n s i)%n=_) (zW (wJ n g' b) (rfl:pw n s (r-i)%n=_))]
   have e1:g*pw n s i*(g'*b*pw n s (r-i))=(g*g')*(b*(pw n s i*pw n s (r-i))):=by ac_rfl
   rw[e1,zW eg (zW (rfl:b%n=b%n) (pw_add hn hs i (r-i))),show i+(r-i)=r by omega,Int.one_mul,Int.mul_comm,eb]
 ·intro u hu e
  have hg:=h.stab u hu e
  exact wN.mpr ⟨0,by omega,u,hg,(zAn hn hu (by show (u*1)%n=_;rw[Int.mul_one])).symm⟩
 ·unfold Ln
  rw[List.nodup_iff_pairwise_ne,List.pairwise_flatMap]
  have low:∀ {i j},i < j→j < r→∀ x∈L.map (fun W=>sl n (Ld.at' W) (pw n s i)),∀ y∈L.map (fun W=>sl n (Ld.at' W) (pw n s j)),x≠y:=by
   intro i j ij jr x hx y hy e
   obtain⟨W,hW,rfl⟩:=List.mem_map.mp hx
   obtain⟨W',hW',rfl⟩:=List.mem_map.mp hy
   obtain⟨g,hg,rfl⟩:=(h.mem W).mp hW
   obtain⟨k,hk,rfl⟩:=(h.mem W').mp hW'
   have gu:=h.sub g hg
   have ku:=h.sub k hk
   rw[zFa hn hw gu (pu i),zFa hn hw ku (pu j)] at e
   have kj:mm n (mm n k (pw n s (j-i))) (pw n s i)=mm n k (pw n s j):=zAn hn (zBp hn ku (pu j)) (by
    rw[zW (wJ n k _) rfl,wJ,Int.mul_assoc,zW (rfl:k%n=_) (pw_add hn hs (j-i) i),show j-i+i=j by omega])
   rw[← kj] at e
   have t:=pu (j-i)
   have e2:=sl_can hn hw (pu i) gu (zBp hn ku t) e
   -- sl g=sl (k t);divide by g
   obtain⟨g',hg',eg⟩:=h.inv g hg
   have gu':=h.sub g' hg'
   have e3:=sl_mul hn hw gu' gu (zBp hn ku t) e2
   rw[zAn hn (j2 hn) eg] at e3
   have st:=h.stab _ (zBp hn (zBp hn ku t) gu') e3.symm
   obtain⟨k',hk',ek⟩:=h.inv k hk
   have fin:=h.mul _ (h.mul _ st _ hg) _ hk'
   refine hl (j-i) (by omega) (by omega) ?_
   have:mm n (mm n (mm n (mm n k (pw n s (j-i))) g') g) k'=pw n s (j-i):=zAn hn t (by
    rw[zW (wJ n _ g) rfl,zW (zW (wJ n _ g') rfl) rfl,zW (zW (zW (wJ n k _) rfl) rfl) rfl]
    have e1:k*pw n s (j-i)*g'*g*k'=(g*g')*((k*k')*pw n s (j-i)):=by ac_rfl
    rw[e1,zW eg (zW ek rfl),Int.one_mul,Int.one_mul])
   rwa [this] at fin
  refine⟨fun i _=>?_,?_⟩
  ·rw[List.pairwise_map]
   refine (List.nodup_iff_pairwise_ne.mp h.nd).imp_of_mem fun {W W'} hW hW' ne e=>ne ?_
   obtain⟨g,hg,rfl⟩:=(h.mem W).mp hW
   obtain⟨k,hk,rfl⟩:=(h.mem W').mp hW'
   rw[zFa hn hw (h.sub g hg) (pu i),zFa hn hw (h.sub k hk) (pu i)] at e
   exact sl_can hn hw (pu i) (h.sub g hg) (h.sub k hk) e
  ·have:=(List.pairwise_lt_range (n:=r))
   refine this.imp_of_mem fun {i j} hi hj ij=>?_
   exact low ij (List.mem_range.mp hj)
 ·intro W
  unfold Ln
  rw[List.mem_flatMap]
  constructor
  ·rintro⟨i,hi,hW⟩
   obtain⟨W',hW',rfl⟩:=List.mem_map.mp hW
   obtain⟨g,hg,rfl⟩:=(h.mem W').mp hW'
   exact⟨_,wN.mpr ⟨i,List.mem_range.mp hi,g,hg,rfl⟩,zFa hn hw (h.sub g hg) (pu i)⟩
  ·rintro⟨x,hx,rfl⟩
   obtain⟨i,hi,g,hg,rfl⟩:=wN.mp hx
   exact⟨i,List.mem_range.mpr hi,List.mem_map.mpr ⟨sl n w g,(h.mem _).mpr ⟨g,hg,rfl⟩,zFa hn hw (h.sub g hg) (pu i)⟩⟩
theorem GI.grow (h:GI n w gr L){s:Int}{r:Nat}(r1:1≤r){g:Int}(hg:g∈gr):g∈grN n gr s r :=
 wN.mpr ⟨0,by omega,g,hg,(zAn hn (h.sub g hg) (by show (g*1)%n=_;rw[Int.mul_one])).symm⟩
theorem GI.has (h:GI n w gr L){s:Int}(hs:s∈Eh.us n n){r:Nat}(r1:1≤r)(hr:pw n s r∈gr):s∈grN n gr s r:=by
 have e1:pw n s 1=s:=zAn hn hs (by show (1*s)%n=_;rw[Int.one_mul])
 rcases Nat.lt_or_ge 1 r with l | l
 ·exact wN.mpr ⟨1,l,1,h.one,(zAn hn hs (by rw[e1,Int.one_mul])).symm⟩
 ·have:r=1:=by omega
  subst this
  rw[e1] at hr
  exact h.grow hn hw (Nat.le_refl 1) hr
theorem GI.all (h:GI n w gr L)(al:∀ u∈Eh.us n n,u∈gr):L.Perm (ded ((Eh.us n n).map (sl n w))):=by
 refine (List.perm_ext_iff_of_nodup h.nd (zDn _)).mpr fun W=>?_
 rw[h.mem,j9,List.mem_map]
 constructor
 ·rintro⟨g,hg,rfl⟩
  exact⟨g,h.sub g hg,rfl⟩
 ·rintro⟨g,hg,rfl⟩
  exact⟨g,al g hg,rfl⟩
theorem GI.len (h:GI n w gr L):L.length≤(Eh.us n n).length:=by
 refine Nat.le_trans (h.nd.length_le_of_subset (l₂:=(Eh.us n n).map (sl n w)) fun W hW=>?_) (by rw[List.length_map];exact Nat.le_refl _)
 obtain⟨g,hg,rfl⟩:=(h.mem W).mp hW
 exact List.mem_map.mpr ⟨g,h.sub g hg,rfl⟩
theorem GI.out (h:GI n w gr L)(W:List Int)(hW:W∈L):W.length=n:=by
 obtain⟨g,_,rfl⟩:=(h.mem W).mp hW
 exact sl_len ..
end
end Vl
namespace Vl
open Rt
def prd (n:Nat)(fs:List (Int→Int)):Int→Int:=fs.foldr (Rt.cv n) fun x=>1*dlt n 0 x
section
variable {n:Nat}(hn:1≤n)
end
def Qp (n:Nat)(f:Int→Int)(v:Int)(r:Nat):Int→Int:=prd n ((List.range r).map fun (i:Nat) x=>f (x*v^i))
theorem inv_pow {n:Nat}{s v:Int}(h:(s*v)%n=1%n)(i:Nat):(s^i*v^i)%n=1%n:=by
 induction i with
 | zero=>simp
 | succ i ih =>
  have e:s^(i+1)*v^(i+1)=(s^i*v^i)*(s*v):=by rw[Int.pow_succ,Int.pow_succ];ac_rfl
  rw[e,zW ih h,Int.mul_one]
section
variable {n:Nat}(hn:1≤n){f:Int→Int}(hf:Ld.Per n f)
include hf
end
section
variable {n:Nat}(hn:1≤n)
variable {w:Int→Int}(hw:Ld.Per n w)
include hw
end
end Vl
namespace Vl
open Rt
theorem tab_at {W:List Int}{n:Nat}(h:W.length=n):Ld.tab n (Ld.at' W)=W:=by
 subst h
 unfold Ld.tab
 apply List.ext_getElem?
 intro i
 rw[List.getElem?_map]
 rcases Nat.lt_or_ge i W.length with l | l
 ·have e:Ld.at' W ((i:Nat):Int)=W[i]'(by omega):=by
   unfold Ld.at'
   rw[Int.emod_eq_of_lt (by omega) (by omega),Int.toNat_natCast,List.getD_eq_getElem?_getD,List.getElem?_eq_getElem (by omega)];rfl
  rw[List.getElem?_range l,List.getElem?_eq_getElem (by omega)]
  exact congrArg some e
 ·rw[List.getElem?_eq_none (by simp;omega),List.getElem?_eq_none (by omega)];rfl
theorem tp_side {m M:Nat}{ws W:List Int}{c D u v:Int}(p:Pln m (Ld.at' ws) c)(hv:(u*v)%m=1%m)(t:Tp m (fun x=>Ld.at' ws (x*v)) c M W D):M=m∧D=c∧W=sl m (Ld.at' ws) u:=by
 have s:=t.same
 have em:=side_same p t.pln hv s
 subst em
 have ec:=side_bot p t.pln hv s t.cb
 subst ec
 refine⟨rfl,rfl,?_⟩
 have c1:=p.c1
 have e:=rst_same p.n1 (by omega) s
 rw[t.pln.fix,Aa_of p.n1 p.per hv] at e
 unfold sl
 rw[e,tab_at t.len]
theorem Tp.selfP {m:Nat}{ws:List Int}{c:Int}(lw:ws.length=m)(p:Pln m (Ld.at' ws) c):Tp m (Ld.at' ws) c m ws c:=⟨lw,p,zP.refl ..,Nat.dvd_refl _,Int.dvd_refl _⟩
theorem pow_ne {b:Int}(h:b≠0):∀ k:Nat,b^k≠0
 | 0=>by simp
 | k+1=>by rw[Int.pow_succ];exact Int.mul_ne_zero (pow_ne h k) h
end Vl
namespace Vl
open Rt
theorem ord_ex {n:Nat}(hn:1≤n){s:Int}(g:Eh.G s n=1):∃ R,1≤R∧R≤n∧s^R%n=1%n:=by
 obtain⟨v,hv⟩:=Ld.zCb hn g
 have hs:mm n 1 s∈Eh.us n n:=us_of (v:=v) (mm_rg hn _ _) (by rw[zW (wJ n 1 s) rfl,Int.one_mul];exact hv)
 obtain⟨R,R1,R2,e⟩:=pw_end hn hs
 refine⟨R,R1,R2,?_⟩
 have e2:=pw_md n (mm n 1 s) R
 rw[e] at e2
 have e3:∀ i:Nat,mm n 1 s^i%n=s^i%n:=fun i=>by
  induction i with
  | zero=>rw[Int.pow_zero,Int.pow_zero]
  | succ i ih=>rw[Int.pow_succ,Int.pow_succ];exact zW ih (by rw[wJ,Int.one_mul])
 rw[e3] at e2
 exact e2.symm
theorem pow_G {n:Nat}(hn:1≤n){s:Int}(g:Eh.G s n=1)(i:Nat):Eh.G (s^i%n) n=1:=by
 obtain⟨v,hv⟩:=Ld.zCb hn g
 refine Ld.zDj (v:=v^i) ?_
 rw[zW (Int.emod_emod_of_dvd _ (Int.dvd_refl _)) rfl]
 exact inv_pow hv i
end Vl
namespace Vl
open Rt
theorem rising_eq:∀ {a b:List (List Int)},a.Perm b→a.Pairwise (· < ·)→b.Pairwise (· < ·)→a=b
 | [],b,p,_,_=>by rw[List.nil_perm.mp p]
 | x::a,[],p,_,_=>by have:=p.length_eq;simp at this
 | x::a,y::b,p,ha,hb=>by
  have ha':=List.pairwise_cons.mp ha
  have hb':=List.pairwise_cons.mp hb
  have e:x=y:=by
   rcases List.mem_cons.mp (p.mem_iff.mp List.mem_cons_self) with h | h
   ·exact h
   ·rcases List.mem_cons.mp (p.mem_iff.mpr List.mem_cons_self) with g | g
    ·exact g.symm
    ·exact absurd (List.lt_trans (ha'.1 y g) (hb'.1 x h)) (List.lt_irrefl x)
  subst e
  rw[rising_eq ((List.perm_cons x).mp p) ha'.2 hb'.2]
theorem sides_again {n:Nat}(hn:1≤n){w:Int→Int}(hw:Ld.Per n w){g:Int}(hg:g∈Eh.us n n):(ded ((Eh.us n n).map (sl n (Ld.at' (sl n w g))))).Perm (ded ((Eh.us n n).map (sl n w))):=by
 refine (List.perm_ext_iff_of_nodup (zDn _) (zDn _)).mpr fun W=>?_
 rw[j9,j9,List.mem_map,List.mem_map]
 constructor
 ·rintro⟨u,hu,rfl⟩
  exact⟨mm n g u,zBp hn hg hu,(zFa hn hw hg hu).symm⟩
 ·rintro⟨u,hu,rfl⟩
  have k:=zBp hn (vv_us hn hg) hu
  refine⟨mm n (vv n g) u,k,?_⟩
  rw[zFa hn hw hg k,zAn hn hu]
  rw[zW (rfl:g%n=_) (wJ n (vv n g) u),← Int.mul_assoc,zW (vv_mm hn hg) rfl,Int.one_mul]
theorem sides_dvd {n:Nat}(hn:1≤n){w:Int→Int}(hw:Ld.Per n w):((Eh.us n n).length:Int)%((ded ((Eh.us n n).map (sl n w))).length:Int)=0:=by
 rw[sides_len hn hw];exact Int.mul_emod_left _ _
end Vl
namespace L2
open PySem PySem.Spec PyProof.Rows PySem.W
def CodeO (qual:Str)(a:Addr):HO:=.ext fun h=>h.CodeRec (.ref a) qual
def LamT (P:Addr)(pos:Pos)(qual:Str)(H:Hp):Prop :=
 H P=some (.tbl #[])∨∃ c:Addr,H P=some (.tbl #[rawInt pos.line,rawInt pos.col,.ref c])∧H c=some (CodeO qual c)
def SmP (P:Addr)(H H':Hp):Prop:=∀ b o,b≠P→H b=some o→H' b=some o
theorem SmP.of {P:Addr}{H H':Hp}(h:zP H H'):SmP P H H':=fun b o _ e=>h b o e
theorem SmP.trans {P:Addr}{H H1 H2:Hp}(a:SmP P H H1)(b:SmP P H1 H2):SmP P H H2:=fun c o n e=>b c o n (a c o n e)
theorem LamT.same {P:Addr}{pos:Pos}{qual:Str}{H H':Hp}(l:LamT P pos qual H)(h:zP H H'):LamT P pos qual H':=by
 rcases l with l | ⟨c,l1,l2⟩
 ·exact .inl (h _ _ l)
 ·exact .inr ⟨c,h _ _ l1,h _ _ l2⟩
theorem LamT.ne {P a:Addr}{pos:Pos}{qual:Str}{H:Hp}{xs:List V}(l:LamT P pos qual H)(h:H a=some (.lst xs)):a≠P:=fun e=>by
 subst e
 rcases l with l | ⟨c,l,_⟩ <;> · rw[h] at l;cases l
section
variable {X:Cx}{pins:List (Addr×Obj)}{σ:St}{H H':Hp}{s:Shared}{h':Heap}
end
section
variable {prog:Program}{w:World}{A:Around}{E:Value→Shared→Prop}{s:Shared}{q c' cc l:Addr}{qual pl ld:Str}{params:Arguments}{scope:Scope}{pm ctv:Value}{p1 p2 p3:Pos}{nm:Str}
end
section
variable {X:Cx}{pins:List (Addr×Obj)}{σ:St}{H:Hp}{s:Shared}{q c' cc l a c P:Addr}{qual pl ld:Str}{params:Arguments}{scope:Scope}{pm ctv:Value}{p1 p2 p3 lpos kp p pos:Pos}{nm:Str}{e:Expr}{te:TE}
theorem LamT.tab {P:Addr}{pos:Pos}{qual:Str}{H:Hp}(l:LamT P pos qual H):∃ ps,H P=some (.tbl ps):=by
 rcases l with l | ⟨_,l,_⟩
 ·exact⟨_,l⟩
 ·exact⟨_,l⟩
theorem SmP.seq {K:PySem.W.Frag}{P a:Addr}{H H':Hp}{xs:List V}(e:SmP P H H')(l:∃ ps,H P=some (.tbl ps))(h:SqL K H a xs):SqL K H' a xs:=by
 obtain⟨ps,l⟩:=l
 have ne:∀ o,H a=some o→o≠.tbl ps→a≠P:=fun o e1 n z=>by
  subst z
  rw[e1] at l;exact n (Option.some.inj l)
 rcases h with (h | ⟨o,h⟩) | h
 ·exact .inl (.inl (e _ _ (ne _ h (fun z=>nomatch z)) h))
 ·exact .inl (.inr ⟨o,e _ _ (ne _ h (fun z=>nomatch z)) h⟩)
 ·exact .inr h
end
end L2
namespace L2
open PySem PySem.Spec PyProof.Rows PySem.W
end L2
namespace L2
open PySem PySem.Spec PyProof.Rows PySem.W
theorem comp_tup {K:PySem.W.Frag}{a:Addr}{xs:List V}{g:TG}{tc:TT}{te:TE}{σ':St}{H:Hp}{Q:VK}(Pv:Nat→List V→Hp→Prop)(h0:Pv 0 [] H)(hl:∀ i ys H,i≤xs.length→Pv i ys H→SqT K H a xs)(hz:∀ i ys H,i < xs.length→Pv i ys H→ys.length < sizeLine)
  (hs:∀ i x ys H,xs[i]?=some x→Pv i ys H→g x σ' H fun σ2 H2=>tc σ2 H2 fun b H3=>if b=true then te σ2 H3 fun y H4=>Pv (i+1) (ys ++ [y]) H4 else Pv (i+1) ys H3)(hd:∀ ys H,Pv xs.length ys H→∀ D,H D=none→Q (.ref D) (upd H D (.lst ys))) :
  zDq (Itt K a) g tc te σ' Q H:=by
 refine⟨fun i m ys H=>m=xs.length-i∧i≤xs.length∧Pv i ys H,⟨xs.length,by simp,Nat.zero_le _,h0⟩,?_⟩
 rintro i m ys H ⟨rfl,hi,p⟩
 have q:=hl i ys H hi p
 by_cases hlt:i < xs.length
 ·refine .inr ⟨⟨xs,xs[i],q,by simp [hlt]⟩,hz i ys H hlt p,Pv (i+1),fun ys' H' p'=>⟨xs.length-(i+1),by omega,rfl,hlt,p'⟩,fun x H' y=>?_⟩
  obtain⟨e,y⟩:=y
  subst e
  exact hs i x ys _ (y xs q) p
 ·have e:i=xs.length:=by omega
  subst e
  exact .inl ⟨⟨xs,q,Nat.le_refl _⟩,hd ys H p⟩
theorem SmP.free {T:Addr}{H H':Hp}(e:SmP T H H')(t:∃ ps,H' T=some (.tbl ps)){l:Addr}(h:H' l=none):H l=none:=by
 cases q:H l with
 | none=>rfl
 | some o =>
  have ne:l≠T:=fun z=>by obtain⟨ps,t⟩:=t;rw[← z,h] at t;cases t
  rw[e l o ne q] at h;cases h
theorem SmP.tr {T:Addr}{H H':Hp}{r:Addr}{ts:List (Int×Int×Int)}(e:SmP T H H')(t:∃ ps,H T=some (.tbl ps))(h:TrAt H r ts):TrAt H' r ts:=by
 obtain⟨ps,t⟩:=t
 have ne:∀ a o,H a=some o→o≠.tbl ps→a≠T:=fun a o e1 n z=>by rw[z,t] at e1;exact n (Option.some.inj e1).symm
 obtain⟨as,h1,h2⟩:=h
 exact⟨as,e _ _ (ne _ _ h1 fun z=>nomatch z) h1,Paired.mapP h2 fun d x q=>e _ _ (ne _ _ q fun z=>nomatch z) q⟩
theorem SmP.lst {T:Addr}{H H':Hp}{r:Addr}{xs:List V}(e:SmP T H H')(t:∃ ps,H T=some (.tbl ps))(h:H r=some (.lst xs)):H' r=some (.lst xs):=by
 obtain⟨ps,t⟩:=t
 exact e _ _ (fun z=>by rw[z,t] at h;cases h) h
theorem SmP.same {T:Addr}{H H1 H2:Hp}(a:SmP T H H1)(b:zP H1 H2):SmP T H H2:=a.trans (.of b)
theorem SmP.upd {T:Addr}{H H':Hp}{r:Addr}{o:HO}(e:SmP T H H')(h:H r=none):SmP T H (upd H' r o):=fun b u n q=>by rw[zK (zJ q h)];exact e b u n q
theorem LamT.upd {T r:Addr}{pos:Pos}{qual:Str}{H:Hp}{xs ys:List V}(l:LamT T pos qual H)(h:H r=some (.lst xs)):LamT T pos qual (upd H r (.lst ys)):=by
 rcases l with l | ⟨c,l1,l2⟩
 ·exact .inl (by rw[zK (fun z=>by rw[← z,l] at h;cases h)];exact l)
 ·refine .inr ⟨c,by rw[zK (fun z=>by rw[← z,l1] at h;cases h)];exact l1,?_⟩
  rw[zK (fun z=>by rw[← z,l2] at h;cases h)];exact l2
end L2
namespace L2
open PySem PySem.Spec PyProof.Rows PySem.W
end L2
namespace L2
open PySem PySem.Spec PyProof.Rows
theorem step_rng {lo n p s:Nat}(hs:0 < s)(hp:0 < p)(en:n=p*s)(hlo:lo < s):sliceRange (sliceBounds (some (lo:Int)) none (some (s:Int)) n).1 (sliceBounds (some (lo:Int)) none (some (s:Int)) n).2.1 (sliceBounds (some (lo:Int)) none (some (s:Int)) n).2.2=(List.range p).map fun t=>lo+t*s:=by
 have h0:(sliceBounds (some (lo:Int)) none (some (s:Int)) n).1=lo:=by
  have:s≤n:=by rw[en];exact Nat.le_mul_of_pos_left s hp
  unfold sliceBounds
  simp only [Option.getD_some,show (s:Int) > 0 by omega,if_true]
  omega
 have h1:(sliceBounds (some (lo:Int)) none (some (s:Int)) n).2.1=n:=by unfold sliceBounds;simp only [Option.getD_some,show (s:Int) > 0 by omega,if_true]
 have h2:(sliceBounds (some (lo:Int)) none (some (s:Int)) n).2.2=s:=rfl
 rw[h0,h1,h2]
 unfold sliceRange
 simp only [show (s:Int) > 0 by omega,if_true]
 have sn:s≤n:=by rw[en];exact Nat.le_mul_of_pos_left s hp
 have ei:(n:Int)=p*s:=by rw[en,Int.natCast_mul]
 have lt:(lo:Int) < n:=by omega
 have cnt:((n:Int)-lo+s-1)/s=p:=by
  rw[show (n:Int)-lo+s-1=(s-1-lo)+s*p by rw[ei,Int.mul_comm];omega,Int.add_mul_ediv_left _ _ (by omega),Int.ediv_eq_zero_of_lt (by omega) (by omega)];omega
 rw[if_pos lt,cnt,Int.toNat_natCast]
 refine List.map_congr_left fun k _=>?_
 rw[Int.mul_comm,← Int.natCast_mul,← Int.natCast_add,Int.toNat_natCast]
theorem pick_at {ns:List Int}{n p s lo:Nat}(hn:ns.length=n)(en:n=p*s)(hlo:lo < s):(((List.range p).map fun t=>lo+t*s).filterMap fun i=>ns[i]?)=(List.range p).map fun (t:Nat)=>Ld.at' ns ((lo:Int)+(t:Int)*s):=by
 rw[List.filterMap_map]
 have key:∀ k:Nat,k≤p→((List.range k).filterMap ((fun i=>ns[i]?)∘fun t=>lo+t*s))=(List.range k).map fun (t:Nat)=>Ld.at' ns ((lo:Int)+(t:Int)*s):=by
  intro k
  induction k with
  | zero=>intro _;rfl
  | succ k ih =>
   intro hk
   rw[List.range_succ,List.filterMap_append,ih (by omega),List.map_append]
   congr 1
   have b:lo+k*s < ns.length:=by
    rw[hn,en]
    have:(k+1)*s≤p*s:=Nat.mul_le_mul_right _ hk
    rw[Nat.succ_mul] at this
    omega
   have e:ns[lo+k*s]?=some (Ld.at' ns ((lo+k*s:Nat):Int)):=Ld.get_at b
   rw[Int.natCast_add,Int.natCast_mul] at e
   show List.filterMap ((fun i=>ns[i]?)∘fun t=>lo+t*s) [k]=_
   simp [e]
 exact key p (Nat.le_refl _)
section
variable {X:Cx}{e:Expr}{te:TE}{lo:Option Expr}{es:Expr}{tl ts:TO}{pos p2 p3:Pos}
end
end L2
namespace L2
open PySem PySem.Spec PyProof.Rows PySem.SeqAt
section
variable {X:Cx}
def CDivE (i j:Int):Prop:=j≠0∧j∣i∧j.natAbs.log2 < 9000
theorem op_fdivE:OpR X (binaryOp .FloorDiv) (rI CDivE fun i j=>.int (i/j)):=opI fun i j _ _ _ _ _ hc q=>by
 have e:i/j=i.fdiv j:=(Int.fdiv_eq_ediv_of_dvd hc.2.1).symm
 rw[e] at q
 exact floordiv_int hc.1 q (.inl (PyProof.noPylong_of_log2 hc.2.2))
end
theorem divE_of {i j:Int}{B:Nat}(h0:j≠0)(hd:j∣i)(hb:j.natAbs < 2^B)(hB:B≤9000):CDivE i j:=⟨h0,hd,by
 have:=(Nat.log2_lt (show j.natAbs≠0 by omega)).mpr hb
 omega⟩
theorem step_rng0 {n p s:Nat}(hs:0 < s)(hp:0 < p)(en:n=p*s):sliceRange (sliceBounds none none (some (s:Int)) n).1 (sliceBounds none none (some (s:Int)) n).2.1 (sliceBounds none none (some (s:Int)) n).2.2=(List.range p).map fun t=>0+t*s:=by
 have h0:(sliceBounds none none (some (s:Int)) n).1=((0:Nat):Int):=by unfold sliceBounds;simp only [Option.getD_some,show (s:Int) > 0 by omega,if_true];rfl
 have g0:(sliceBounds (some ((0:Nat):Int)) none (some (s:Int)) n).1=((0:Nat):Int):=by unfold sliceBounds;simp only [Option.getD_some,show (s:Int) > 0 by omega,if_true];omega
 have e1:(sliceBounds none none (some (s:Int)) n).2.1=(sliceBounds (some ((0:Nat):Int)) none (some (s:Int)) n).2.1:=rfl
 have e2:(sliceBounds none none (some (s:Int)) n).2.2=(sliceBounds (some ((0:Nat):Int)) none (some (s:Int)) n).2.2:=rfl
 have k:=step_rng (lo:=0) hs hp en hs
 rw[h0,e1,e2,← g0];exact k
section
variable {X:Cx}{e:Expr}{te:TE}{es:Expr}{ts:TO}{pos p2 p3:Pos}
def tSlZ (K:PySem.W.Frag)(te:TE)(ts:TO):TE:=fun σ H Q=>te σ H fun x H1=>ts σ H1 fun st H3=>∃ (a:Addr)(ns:List Int)(n p s:Nat),x=.ref a∧st=some (s:Int)∧SqL K H3 a (ns.map V.int)∧ns.length=n∧0 < s∧0 < p∧n=p*s∧∀ q,H3 q=none→Q (.ref q) (upd H3 q (.lst (((List.range p).map fun (t:Nat)=>Ld.at' ns (((0:Nat):Int)+(t:Int)*s)).map V.int)))
theorem pe_sliceZ {K:PySem.W.Frag}(hK:X.K=K)(he:PE X e te)(hst:PO X (some es) ts):PE X (.Subscript e (.Slice none none (some es) p2) pos) (tSlZ K te ts):=by
 subst hK
 intro pins s σ H Q I h
 refine Subscript_ (thn (he pins s σ H _ I h) fun v s1 ⟨x,H1,I1,r1,q1⟩=>?_)
 refine wpAny_Slice ?_
 rw[evalPart_none]
 refine wpAny_pure ?_
 refine wpAny_pure ?_
 refine thn (hst pins s1 σ H1 _ I1 q1) fun vt s3 ⟨t,H3,I3,pt,q3⟩=>?_
 obtain⟨a,ns,n,pp,s0,rfl,est,hq,hn,hs0,hp0,en,q⟩:=q3
 subst est
 cases r1
 obtain⟨its,rv,ht,hz⟩:=I3.list hq
 have I4:Inv X pins σ H3 { s3 with heap:=s3.heap.push { cls:=.type "slice",data:=.fields #[.none,.none,vt] } }:=I3.kept (t':=s3.toks) fun b ob q=>Heap.get?_push_of_some _ q
 have ht4:({ s3 with heap:=s3.heap.push { cls:=.type "slice",data:=.fields #[.none,.none,vt] } }:Shared).heap.IsList a its.toArray:=by
  obtain⟨its',rv',ht',_⟩:=I4.list hq
  have:its'=its:=by
   have e1:=ht.isList
   obtain⟨o,ho,hc,n,hd⟩:=e1
   obtain⟨o',ho',hc',n',hd'⟩:=ht'.isList
   have ho2:=Heap.get?_push_of_some { cls:=.type "slice",data:=.fields #[.none,.none,vt] } ho
   rw[show (s3.heap.push { cls:=.type "slice",data:=.fields #[.none,.none,vt] }).get? a=_ from ho'] at ho2
   cases ho2
   rw[hd'] at hd
   injection hd with hd
   have:=congrArg Array.toList hd
   simpa using this
  rw[← this];exact ht'.isList
 have len:=rv.length
 rw[List.length_map] at len
 show wpAny (model X.prog X.w) X.A (subscriptTail e (.Slice none none (some es) p2) (.ref a) (.ref s3.heap.objs.size)) (EP X pins σ Q) X.xe { s3 with heap:=s3.heap.push { cls:=.type "slice",data:=.fields #[.none,.none,vt] } }
 refine tail_any (ops:=[.ref a,.ref s3.heap.objs.size]) (T:="list") ht4.typeIs slot_list_getitem.lookup ?_ (by with_unfolding_all rfl)
 rw[List.length_map] at hz
 refine wpAny_getItem_list_slice (st:=some (s0:Int)) ht4 (Heap.IsSliceOf.new ..) .none .none pt (by intro z;injection z with z;omega) ?_ (by rw[List.size_toArray,← len];exact hz)
 have esz:its.toArray.size=n:=by rw[List.size_toArray,← len,hn]
 have pv:=pick_vals rv ((List.range pp).map fun t=>0+t*s0)
 rw[pick_at hn en hs0] at pv
 unfold slicePick
 rw[esz,step_rng0 hs0 hp0 en]
 have ml:(((List.range pp).map fun (t:Nat)=>Ld.at' ns (((0:Nat):Int)+(t:Int)*s0)).map V.int).length≤sizeLine:=by
  rw[List.length_map,List.length_map,List.length_range]
  have:pp*1≤pp*s0:=Nat.mul_le_mul_left _ hs0
  omega
 refine⟨.ref _,_,I4.laid (t':=s3.toks) (o:=.lst (((List.range pp).map fun (t:Nat)=>Ld.at' ns (((0:Nat):Int)+(t:Int)*s0)).map V.int)) (fun b ob q=>Heap.get?_push_of_some _ q) (Nat.le_refl _) ?_,rfl,q _ (I4.hok.fresh (Nat.le_refl _))⟩
 exact⟨ml,_,0,pv,Heap.get?_push_size _ rfl⟩
end
theorem zP.seqT {K:PySem.W.Frag}{H H':Hp}{a:Addr}{xs:List V}(e:zP H H')(h:SqT K H a xs):SqT K H' a xs:=by
 rcases h with (h | ⟨o,h⟩) | h
 ·exact .inl (.inl (e _ _ h))
 ·exact .inl (.inr ⟨o,e _ _ h⟩)
 ·exact .inr h
def dV (m:Int)(ws:List Int)(c:Int):PyData:=.tuple [.int m,.tuple (ws.map PyData.int),.int c]
def vU (H:Hp)(t:Addr)(m:Int)(ws:List Int)(c:Int):Prop:=∃ u,H t=some (.tup [.int m,.ref u,.int c])∧H u=some (.tup (ws.map V.int))
theorem vU.same {H H':Hp}{t:Addr}{m c:Int}{ws:List Int}(h:vU H t m ws c)(s:zP H H'):vU H' t m ws c:=let ⟨u,a,b⟩:=h;⟨u,s _ _ a,s _ _ b⟩
theorem rd_val {K:PySem.W.Frag}{H:Hp}{t:Addr}{m c:Int}{ws:List Int}(h:vU H t m ws c):RdD K H (.ref t) (dV m ws c):=let ⟨u,a,b⟩:=h;.tup (SqT.of a) (.cons (.int _) (.cons (.tup (SqT.of b) (rd_ints ws)) (.cons (.int _) .nil)))
theorem zEc:∀ l:List Int,PyData.depthAll (l.map PyData.int)≤1
 | []=>by simp [PyData.depthAll]
 | a::r=>by have:=zEc r;simp only [List.map_cons,PyData.depthAll,PyData.depth];omega
theorem lay_intsV (ws:List Int):PyData.canLayAll0 (ws.map PyData.int)=true:=by
 have h:=PySem.W.shaped_ints ws
 unfold shaped at h
 rw[Bool.and_eq_true] at h
 have:=h.1
 simpa only [PyData.canLay0] using this
theorem shp_val (m:Int)(ws:List Int)(c:Int):shaped (dV m ws c)=true:=by
 have h1:=zEc ws
 unfold shaped dV
 rw[Bool.and_eq_true]
 refine⟨by simp [PyData.canLay0,PyData.canLayAll0,lay_intsV ws],decide_eq_true ?_⟩
 simp only [PyData.depth,PyData.depthAll]
 omega
theorem mix_val (m c m' c':Int)(ws ws':List Int):noMix (dV m ws c) (dV m' ws' c')=true:=by
 unfold dV
 simp only [noMix,noMixAll]
 rw[PySem.W.noMix_ints ws ws']
 simp [noMix,noMixAll]
theorem sam_val (m c m' c':Int)(ws ws':List Int):same (dV m ws c) (dV m' ws' c')=decide (m=m'∧ws=ws'∧c=c'):=by
 unfold dV
 simp only [same,sameAll]
 rw[PySem.W.same_ints ws ws']
 by_cases h1:m=m' <;> by_cases h2:ws=ws' <;> by_cases h3:c=c' <;> simp [h1,h2,h3,same,sameAll]
theorem eqV_of {K:PySem.W.Frag}{H:Hp}{a b:Addr}{m c m' c':Int}{ws ws':List Int}{Q:VK}(h1:vU H a m ws c)(h2:vU H b m' ws' c')(q:Q (.bl (decide (m=m'∧ws=ws'∧c=c'))) H):rEqD K (.ref a) (.ref b) H Q :=
 ⟨_,_,rd_val h1,rd_val h2,shp_val ..,shp_val ..,mix_val ..,by rw[sam_val];exact q⟩
theorem neV_of {K:PySem.W.Frag}{H:Hp}{a b:Addr}{m c m' c':Int}{ws ws':List Int}{Q:VK}(h1:vU H a m ws c)(h2:vU H b m' ws' c')(q:Q (.bl (!decide (m=m'∧ws=ws'∧c=c'))) H):rNeD K (.ref a) (.ref b) H Q :=
 ⟨_,_,rd_val h1,rd_val h2,shp_val ..,shp_val ..,mix_val ..,by rw[sam_val];exact q⟩
theorem zDv (a b c:V):atI [a,b,c] 0=some a:=rfl
theorem at3_1 (a b c:V):atI [a,b,c] 1=some b:=rfl
theorem at3_2 (a b c:V):atI [a,b,c] 2=some c:=rfl
end L2
namespace L2
open PySem PySem.Spec PyProof.Rows
open AutoSeq1 (wpAny_loadPart')
section
variable {prog:Program}{w:World}{A:Around}{E:Value→Shared→Prop}{s:Shared}
theorem nextT_item {it t:Addr}{i:Nat}{vs:Array Value}{x:Value}{Q:Value→Shared→Prop}(hit:s.heap.IsTupleIter it t i)(ht:s.heap.IsTuple t vs)(hx:vs[i]?=some x)(hQ:∀ h',h'.IsTupleIter it t (i+1)→Heap.SameBut it s.heap h'→Q x { s with heap:=h' }):wpAny (model prog w) A (Builtin.SmallTypes.nextOf (.ref it)) Q E s:=by
 obtain⟨o,g1,g2,g3⟩:=id hit;obtain⟨o2,k1,_,k2,k3⟩:=ht;unfold Builtin.SmallTypes.nextOf
 refine wpAny_bind (wpAny_callSpecial?_slot (name:=Str.ofString "__next__") hit.typeIs F.slot_tuple_iterator_next (wpAny_call_entry F.slot_tuple_iterator_next hit.typeIs F.entry_tuple_iterator_next ?_ (F.args_tuple_iterator_next_1 _)))
 show wpAny _ _ (field (.ref it) 0 >>= _) _ _ s;refine wpAny_bind (wpAny_field g1 g3 (x:=.ref t) rfl ?_)
 show wpAny _ _ (if (Value.ref t == Value.none)=true then _ else _) _ _ s;rw[if_neg (show ¬ ((Value.ref t == Value.none)=true) from Bool.false_ne_true)]
 show wpAny _ _ (field (.ref it) 1 >>= _) _ _ s;refine wpAny_bind (wpAny_field g1 g3 (x:=.int i 0) rfl ?_)
 show wpAny _ _ (seqItems? (.ref t) >>= _) _ _ s;refine wpAny_bind (wpAny_seqItems k1 k3 ?_);simp only [Int.toNat_natCast,hx]
 refine wpAny_bind (wpAny_setField g1 g3 (by simp) (wpAny_pure ⟨x,rfl,wpAny_pure (hQ _ ?_ (Heap.SameBut.update ..))⟩))
 exact⟨_,Heap.get?_update_self _ g1 (Obj.isFreed_of_fields (Obj.data_mapFields g3 _)),(Obj.cls_mapFields ..).trans g2,by rw[Obj.data_mapFields g3];simp [rawInt]⟩
theorem nextT_end {it t:Addr}{i:Nat}{vs:Array Value}{Q:Value→Shared→Prop}(hh:A.handled=none)(hit:s.heap.IsTupleIter it t i)(ht:s.heap.IsTuple t vs)(hx:vs[i]?=none)(hE:∀ h' e,Heap.ExtBut it s.heap h'→(∃ o,h'.get? e=some o∧o.cls=.type "StopIteration")→E (.ref e) { s with heap:=h' }):wpAny (model prog w) A (Builtin.SmallTypes.nextOf (.ref it)) Q E s:=by
 obtain⟨o,g1,g2,g3⟩:=id hit;obtain⟨o2,k1,_,k2,k3⟩:=ht;unfold Builtin.SmallTypes.nextOf
 refine wpAny_bind (wpAny_callSpecial?_slot (name:=Str.ofString "__next__") hit.typeIs F.slot_tuple_iterator_next (wpAny_call_entry F.slot_tuple_iterator_next hit.typeIs F.entry_tuple_iterator_next ?_ (F.args_tuple_iterator_next_1 _)))
 show wpAny _ _ (field (.ref it) 0 >>= _) _ _ s;refine wpAny_bind (wpAny_field g1 g3 (x:=.ref t) rfl ?_)
 show wpAny _ _ (if (Value.ref t == Value.none)=true then _ else _) _ _ s;rw[if_neg (show ¬ ((Value.ref t == Value.none)=true) from Bool.false_ne_true)]
 show wpAny _ _ (field (.ref it) 1 >>= _) _ _ s;refine wpAny_bind (wpAny_field g1 g3 (x:=.int i 0) rfl ?_)
 show wpAny _ _ (seqItems? (.ref t) >>= _) _ _ s;refine wpAny_bind (wpAny_seqItems k1 k3 ?_);simp only [Int.toNat_natCast,hx]
 refine wpAny_bind (wpAny_rule (wpAny_bind (wpAny_setField g1 g3 (by simp) ?_)))
 show wpAny _ _ (newExc (.type "StopIteration") [] >>= _) _ _ _;refine wpAny_bind ?_;simp only [newExc,newTuple]
 refine wpAny_bind (wpAny_newObj_type ?_ (by size_fits));refine wpAny_bind (m:=firstArgMember _ _) (wpAny_of_eq (a:=Value.none) (by first | rfl | (simp only [firstArgMember];rfl)) ?_)
 refine wpAny_newObj_type ?_ (by size_fits);simp only [raiseNew];refine wpAny_bind (wpAny_handled ?_)
 first | rw[show A.in1.handled=none from hh] | rw[hh]
 refine wpAny_bind (wpAny_pure (wpAny_throw ?_));exact hE _ _ (((Heap.SameBut.update ..).extBut.push _).push _) ⟨_,Heap.get?_push_size _ rfl,rfl⟩
end
theorem draws_tup {prog:Program}{w:World}{A:Around}(hh:A.handled=none)(it t:Addr)(hne:t≠it)(vs:Array Value):Draws prog w A it [it,t] vs.size (fun i v=>vs[i]?=some v) (fun i h=>h.IsTupleIter it t i∧h.IsTuple t vs) where
 live:=fun _ _ st=>let ⟨o,ho,_⟩:=st.1;⟨o,ho⟩
 frame:=fun _ _ _ st hk=>⟨st.1.at fun o e=>hk it (by simp) o e,let ⟨o,ho,r⟩:=st.2;⟨o,hk t (by simp) o ho,r⟩⟩
 item:=fun i s Q E hi st hQ=>nextT_item st.1 st.2 (x:=vs[i]) (by simp [hi]) fun h' hit' hs'=>hQ _ h' s.toks (by simp [hi]) ⟨hit',let ⟨o,ho,r⟩:=st.2;⟨o,hs'.extBut t o hne ho,r⟩⟩ hs'
 done:=fun s Q E st hE=>nextT_end hh st.1 st.2 (by simp) hE
theorem enum_newT (t:Addr)(vs:Array Value)(n:Nat)(dct:Option Addr)(sl:Array (Option Value)):Meets (Builtin.«enumerate.__new__» ⟨[.type "enumerate",.ref t],[]⟩) (fun _ R s=>s.heap.get? t=some { cls:=.type "tuple",dict:=dct,data:=.seq vs n,slots:=sl } ∧
   R (.ok (.ret (.ref (s.heap.push { cls:=.type "tuple_iterator",data:=.fields #[.ref t,.int 0 0] }).objs.size))) { s with heap:=(s.heap.push { cls:=.type "tuple_iterator",data:=.fields #[.ref t,.int 0 0] }).push { cls:=.type "enumerate",data:=.fields #[.none,.bool false,.ref s.heap.objs.size,rawInt 0,.none,.none] } }) :=
 .of_wp fun prog w A R s h=>by
  obtain⟨hp,g,d,tk,os⟩:=s;obtain⟨ht,h⟩:=h;have hsub:=sub_enumerate
  have hT:Heap.IsTuple (Shared.heap ⟨hp,g,d,tk,os⟩) t vs:=⟨_,ht,rfl,n,rfl⟩
  wp_walk using wpAny_loadPart' ht
  refine wpAny_stack_any fun st=>wpAny_pure ?_;split
  ·rename_i c _ _ _ _ _;cases (c == Value.type "enumerate")
   ·wp_walk using wpAny_loadPart' ht,wpAny_pyIter_tuple hT
    exact⟨_,rfl,h⟩
   ·wp_walk using wpAny_loadPart' ht,wpAny_pyIter_tuple hT
    exact⟨_,rfl,h⟩
  ·wp_walk using wpAny_loadPart' ht,wpAny_pyIter_tuple hT
   exact⟨_,rfl,h⟩
theorem call_enumT {prog:Program}{w:World}{A:Around}{E:Value→Shared→Prop}{s:Shared}{t:Addr}{vs:Array Value}{Q:Value→Shared→Prop}(hL:s.heap.IsTuple t vs)
  (h:∀ h',IsEnum h' (s.heap.objs.size+1) s.heap.objs.size 0 .none→h'.IsTupleIter s.heap.objs.size t 0→h'.objs.size=s.heap.objs.size+2→(∀ b o,s.heap.get? b=some o→h'.get? b=some o)→Q (.ref (s.heap.objs.size+1)) { s with heap:=h' }):wpAny (model prog w) A (call (.type "enumerate") [.ref t]) Q E s:=by
 obtain⟨⟨c,dct,dt,sl⟩,hl,hc,n,hd⟩:=hL;replace hc:c=.type "tuple":=hc;replace hd:dt=.seq vs n:=hd;subst hc hd
 refine callType_new F.called_enumerate (by decide) (F.typeCall_enumerate_1 _) (F.newCall_enumerate_1 _) (fun obj=>F.args_object_init_2 obj _) F.entry_enumerate_new (enum_newT t vs n dct sl) ⟨hl,?_⟩
 have hz:(s.heap.push { cls:=.type "tuple_iterator",data:=.fields #[.ref t,.int 0 0] }).objs.size=s.heap.objs.size+1:=Heap.size_push ..
 show _∧_;rw[hz]
 have he:IsEnum ((s.heap.push { cls:=.type "tuple_iterator",data:=.fields #[.ref t,.int 0 0] }).push { cls:=.type "enumerate",data:=.fields #[.none,.bool false,.ref s.heap.objs.size,rawInt 0,.none,.none] }) (s.heap.objs.size+1) s.heap.objs.size 0 .none:=by
  have:=Heap.get?_push_size (s.heap.push { cls:=.type "tuple_iterator",data:=.fields #[.ref t,.int 0 0] }) (o:={ cls:=.type "enumerate",data:=.fields #[.none,.bool false,.ref s.heap.objs.size,rawInt 0,.none,.none] }) rfl
  rw[hz] at this;exact this
 refine⟨⟨_,he,rfl⟩,h _ he ⟨_,Heap.get?_push_of_some _ (Heap.get?_push_size _ rfl),rfl,rfl⟩ (by rw[Heap.size_push,hz]) fun b o x=>Heap.get?_push_of_some _ (Heap.get?_push_of_some _ x)⟩
def IteT (K:PySem.W.Frag)(a:Addr):It :=
 ⟨fun i H=>∃ xs x,SqT K H a xs∧xs[i]?=some x,fun i H v H'=>∃ p x,v=.ref p∧H p=none∧(∀ xs,SqT K H a xs→xs[i]?=some x)∧H'=upd H p (.tup [.int i,x]),fun i H=>∃ xs,SqT K H a xs∧xs.length≤i⟩
theorem turn_enumT {P:Program}{w:World}{K:PySem.W.Frag}{elts:List Expr}{x1}{pos:Pos}(a e it:Addr)(hne:e≠it):Turn P w K (.Tuple elts x1 pos) (IteT K a) [e,it] e (fun i h=>∃ old,IsEnum h e it ((i:Nat):Int) old∧h.IsTupleIter it a i) where
 mem:=by simp
 obj:=fun i h st b hb=>by
  obtain⟨old,he,o,e1,c,d⟩:=st
  rcases List.mem_cons.mp hb with z | z
  ·subst z
   exact⟨_,he,fun v z=>by
    have z':Data.fields _=Data.cell v:=z
    cases z'⟩
  ·have z':b=it:=by simpa using z
   subst z'
   exact⟨o,e1,fun v z=>by rw[d] at z;cases z⟩
 keep:=fun i h h' st k=>by
  obtain⟨old,he,st⟩:=st
  exact⟨old,k e (by simp) _ he,st.at fun o e'=>k it (by simp) o e'⟩
 item:=by
  intro X hP hw hK hc i pins s σ H E I hf st hg
  subst hP hw hK
  obtain⟨old,he,st⟩:=st
  obtain⟨xs,x,hq,hx⟩:=hg
  obtain⟨its,rv,p,hz⟩:=I.tuple hq
  obtain⟨u,hu,ru⟩:=rv.get hx
  have lte:e < s.heap.objs.size:=Heap.lt_size he
  have lti:it < s.heap.objs.size:=by obtain⟨o,e1,_⟩:=st;exact Heap.lt_size e1
  have nai:a≠it:=fun z=>by
   obtain⟨o,e1,c1,_⟩:=st
   obtain⟨o',e2,c2,_⟩:=p
   rw[z,e1] at e2
   cases e2
   rw[c1] at c2
   exact absurd c2 (by decide +kernel)
  have nea:e≠a:=fun z=>by
   obtain⟨o',e2,c2,_⟩:=p
   rw[← z] at e2
   have e3:s.heap.get? e=some _:=he
   rw[e3] at e2
   cases e2
   exact absurd c2 (by show Value.type "enumerate"≠.type "tuple";decide +kernel)
  have D:=draws_tup (prog:=X.prog) (w:=X.w) (A:=X.A.in1) (show X.A.in1.handled=none from I.ok.hd hc) it a nai its.toArray
  have ilt:i < its.toArray.size:=by
   have:=(List.getElem?_eq_some_iff.mp hu).1
   simpa using this
  refine wpAny_pyNext_enum_itemD D he ⟨st,p⟩ ilt hne (by simp [hne,nea]) fun y h1 tk hy eo st1 ht1 hz1 hk1=>?_
  have ey:y=u:=by
   have hu':its.toArray[i]?=some u:=by simpa using hu
   rw[hu'] at hy
   exact (Option.some.inj hy).symm
  subst ey
  refine⟨_,rfl,wpAny_letOwnedTupleGo_enum eo fun h2 he2 hs2=>?_⟩
  replace hs2:Heap.SameBut e h1 h2:=hs2
  have nm:∀ b,b∉[e,it]→b≠e∧b≠it:=fun b hb=>⟨fun z=>hb (by simp [z]),fun z=>hb (by simp [z])⟩
  have IT:=I.turnedT (t':=tk+1) (h':=h2) (its:=[e,it]) (xs:=[.int ((i:Nat):Int),x]) (us:=[.int i tk,y]) (fun b o hb q=>hs2.extBut b o (nm b hb).1 (hk1 b o (nm b hb).1 (nm b hb).2 q)) hf
   (fun b hb=>by
    rcases List.mem_cons.mp hb with z | z
    ·rw[z];exact lte
    ·have z':b=it:=by simpa using z
     rw[z'];exact lti)
   (hs2.extBut _ _ (Nat.ne_of_gt lte) ht1) (by show 2≤sizeLine;decide) (.cons ⟨_,rfl⟩ (.cons ru .nil))
  refine⟨.ref s.heap.objs.size,_,IT.1,rfl,⟨_,x,rfl,I.hok.fresh (Nat.le_refl _),fun ys hy=>by rw[I.tuple_inj hy hq];exact hx,rfl⟩,⟨y,?_,st1.1.extBut hs2.extBut (Ne.symm hne)⟩,IT.2⟩
  have:((i+1:Nat):Int)=(i:Int)+1:=by push_cast;rfl
  rw[this];exact he2
 done:=by
  intro X hP hw hK hc i pins s σ H E I hf st hg
  subst hP hw hK
  obtain⟨old,he,st⟩:=st
  obtain⟨xs,hq,hx⟩:=hg
  obtain⟨its,rv,p,hz⟩:=I.tuple hq
  have hl:=rv.length
  obtain⟨f0,f1,f2,f3,f4,f5⟩:=hf it (by simp)
  have hT:s.TypeIs (.ref e) "enumerate":=⟨_,he,rfl⟩
  unfold pyNext
  refine wpAny_bind (wpAny_attempt (wpAny_callSpecial?_slot (name:=Str.ofString "__next__") hT F.slot_enumerate_next (wpAny_call_entry F.slot_enumerate_next hT F.entry_enumerate_next ?_ (F.args_enumerate_next_1 _))))
  show wpAny _ _ (field (.ref e) 2 >>= _) _ _ _;refine wpAny_bind (wpAny_field he rfl (x:=.ref it) rfl ?_)
  refine wpAny_bind (nextT_end (show X.A.in1.handled=none from I.ok.hd hc) st p (by simp;omega) fun h' x he' hx'=>?_)
  obtain⟨o,ho,hc'⟩:=hx'
  refine wpAny_bind (wpAny_isInstance (T:="StopIteration") (b:=true) ⟨o,ho,hc'⟩ isSubtype_stop ?_)
  exact wpAny_pure ⟨rfl,I.turned (t':=s.toks) (fun b o hb e=>he' b o hb e) f0 f1 f3 f4 f5⟩
 self:=fun A i s Q E st h=>by
  obtain⟨old,he,st⟩:=st
  exact wpAny_pyIter_enum he h
section
variable {X:Cx}
def iEnumT (K:PySem.W.Frag)(ta:TA):TI:=fun σ H R=>ta σ H fun vs H1=>∃ a,vs=[.ref a]∧(∃ xs,SqT K H1 a xs)∧R (IteT K a) H1
theorem pi_enumT {elts:List Expr}{x1}{pos':Pos}{a:Expr}{ta:TA}{p pos:Pos}(hg:Gl X "enumerate")(hm:X.mg "enumerate"=none)(ha:PA X [a] ta)(hs:starEach [a] X.env=[(false,eval a X.env)]:=by rfl):PI X (.Tuple elts x1 pos') (.Call (.Name "enumerate" p) [a] [] pos) (iEnumT X.K ta):=by
 intro pins s σ H R I h
 refine Call_ (zAq I hg hm boot_enumerate (PyProof.Rows.callWith_type1 (thn (ha pos pins s σ H _ I h) fun us s1 ⟨vs,H1,I1,r1,q1⟩=>?_) hs rfl))
 obtain⟨a,e,⟨xs,hq⟩,q⟩:=q1
 subst e
 cases r1 with
 | cons r rr =>
  cases rr
  cases r
  obtain⟨its,rv,p,hz⟩:=I1.tuple hq
  refine call_enumT p fun h' he hit hz hk=>?_
  have I2:Inv X pins σ H1 { s1 with heap:=h' }:=I1.kept (t':=s1.toks) hk
  refine wpAny_pyIter_enum he ?_
  refine⟨_,[s1.heap.objs.size+1,s1.heap.objs.size],_,_,H1,rfl,I2,turn_enumT a _ _ (Nat.succ_ne_self _),⟨.none,he,hit⟩,fun b hb=>?_,q⟩
  rcases List.mem_cons.mp hb with z | z
  ·subst z;exact I1.fpOk (Nat.le_succ _) (I1.hok.fresh (Nat.le_succ _))
  ·have z':b=s1.heap.objs.size:=by simpa using z
   subst z';exact I1.fpOk (Nat.le_refl _) (I1.hok.fresh (Nat.le_refl _))
end
theorem for_enumT {K:PySem.W.Frag}{a:Addr}{xs:List V}{g:TG}{tb:TS}{D:Ends}{σ:St}{H:Hp}(Pv:Nat→St→Hp→Prop)(h0:Pv 0 σ H)(hl:∀ i σ H,i≤xs.length→Pv i σ H→SqT K H a xs)
  (hs:∀ i x σ H p,xs[i]?=some x→Pv i σ H→H p=none→g (.ref p) σ (upd H p (.tup [.int i,x])) fun σ2 H2=>tb { D with nx:=Pv (i+1),ct:=Pv (i+1),bk:=D.nx } σ2 H2)(hd:∀ σ H,Pv xs.length σ H→D.nx σ H) :
  ∃ W:Nat→Nat→St→Hp→Prop,(∃ m,W 0 m σ H)∧∀ i m σ H,W i m σ H →
   ((IteT K a).stop i H∧D.nx σ H)∨((IteT K a).go i H∧∃ N:St→Hp→Prop,(∀ σ' H',N σ' H'→∃ m',m' < m∧W (i+1) m' σ' H')∧∀ x H',(IteT K a).yld i H x H'→g x σ H' fun σ2 H2=>tb { D with nx:=N,ct:=N,bk:=D.nx } σ2 H2):=by
 refine⟨fun i m σ H=>m=xs.length-i∧i≤xs.length∧Pv i σ H,⟨xs.length,by simp,Nat.zero_le _,h0⟩,?_⟩
 rintro i m σ H ⟨rfl,hi,p⟩
 have q:=hl i σ H hi p
 by_cases hlt:i < xs.length
 ·refine .inr ⟨⟨xs,xs[i],q,by simp [hlt]⟩,Pv (i+1),fun σ' H' p'=>⟨xs.length-(i+1),by omega,rfl,hlt,p'⟩,fun x H' y=>?_⟩
  obtain⟨r,y,rfl,hr,hy,rfl⟩:=y
  exact hs i y σ _ r (hy xs q) p hr
 ·have e:i=xs.length:=by omega
  subst e
  exact .inl ⟨⟨xs,q,Nat.le_refl _⟩,hd σ H p⟩
end L2
namespace L2
open PySem PySem.Spec PyProof.Rows
def Va (H:Hp)(J:Nat)(f:Int→Int)(b:Int)(B C:Nat)(t:Addr):Prop:=∃ (m:Nat)(ws:List Int)(c:Int),vU H t m ws c∧Vl.Tp J f b m ws c∧Ld.Bd (2^B) ws∧c.natAbs < 2^C∧Ld.Per J f∧b≠0
theorem Va.mk {H:Hp}{J:Nat}{f:Int→Int}{b:Int}{B C:Nat}{t:Addr}{m:Nat}{ws:List Int}{c:Int}(h:vU H t m ws c)(tp:Vl.Tp J f b m ws c)(bd:Ld.Bd (2^B) ws)(cb:c.natAbs < 2^C)(p:Ld.Per J f)(b0:b≠0):Va H J f b B C t:=⟨m,ws,c,h,tp,bd,cb,p,b0⟩
theorem Va.same {H H':Hp}{J:Nat}{f:Int→Int}{b:Int}{B C:Nat}{t:Addr}(v:Va H J f b B C t)(s:zP H H'):Va H' J f b B C t:=let ⟨m,ws,c,h,r⟩:=v;⟨m,ws,c,h.same s,r⟩
theorem Va.mono {H:Hp}{J:Nat}{f:Int→Int}{b:Int}{B C B' C':Nat}{t:Addr}(v:Va H J f b B C t)(hB:B≤B')(hC:C≤C'):Va H J f b B' C' t :=
 let ⟨m,ws,c,h,tp,bd,cb,r⟩:=v;⟨m,ws,c,h,tp,Ld.zEl bd (Nat.pow_le_pow_right (by decide) hB),Nat.lt_of_lt_of_le cb (Nat.pow_le_pow_right (by decide) hC),r⟩
theorem Va.iff {H:Hp}{J:Nat}{f g:Int→Int}{b d:Int}{B C B' C':Nat}{t t':Addr}{K:PySem.W.Frag}(v:Va H J f b B C t)(v':Va H J g d B' C' t')(J1:1≤J)(s:Vl.zP J f b J g d){Q:VK}(q:Q (.bl true) H):rEqD K (.ref t) (.ref t') H Q:=by
 obtain⟨m,ws,c,h,tp,_,_,_,b0⟩:=v
 obtain⟨m',ws',c',h',tp',_,_,_,d0⟩:=v'
 obtain⟨e1,e2,e3⟩:=tp.uniq tp' J1 J1 b0 d0 s
 exact eqV_of h h' (by rw[decide_eq_true (by exact⟨by rw[e1],e2,e3⟩)];exact q)
theorem Va.ne {H:Hp}{J:Nat}{f g:Int→Int}{b d:Int}{B C B' C':Nat}{t t':Addr}{K:PySem.W.Frag}(v:Va H J f b B C t)(v':Va H J g d B' C' t')(J1:1≤J)(s:Vl.zP J f b J g d){Q:VK}(q:Q (.bl false) H):rNeD K (.ref t) (.ref t') H Q:=by
 obtain⟨m,ws,c,h,tp,_,_,_,b0⟩:=v
 obtain⟨m',ws',c',h',tp',_,_,_,d0⟩:=v'
 obtain⟨e1,e2,e3⟩:=tp.uniq tp' J1 J1 b0 d0 s
 exact neV_of h h' (by rw[decide_eq_true (by exact⟨by rw[e1],e2,e3⟩)];exact q)
theorem Va.whole {H:Hp}{J:Nat}(J1:1≤J){k:Int}{t:Addr}{B:Nat}(h:vU H t 1 [k] 1)(kb:k.natAbs≤2^B):Va H J (fun x=>k*Vl.dlt J 0 x) 1 B 1 t :=
 ⟨1,[k],1,h,Vl.Tp.whole J1 k,fun x hx=>by rw[List.mem_singleton.mp hx];exact kb,by decide,Vl.dlt0_per J k,by decide⟩
theorem vU.updL {H:Hp}{k t:Addr}{m c:Int}{ws:List Int}{xs ys:List V}(h:H k=some (.lst xs))(v:vU H t m ws c):vU (upd H k (.lst ys)) t m ws c :=
 let ⟨u,a,b⟩:=v;⟨u,(zK (zEs a h (fun z=>by cases z))).trans a,(zK (zEs b h (fun z=>by cases z))).trans b⟩
theorem Va.updL {H:Hp}{k t:Addr}{J B C:Nat}{f:Int→Int}{b:Int}{xs ys:List V}(h:H k=some (.lst xs))(v:Va H J f b B C t):Va (upd H k (.lst ys)) J f b B C t:=let ⟨m,ws,c,v',r⟩:=v;⟨m,ws,c,v'.updL h,r⟩
end L2
namespace L2
open PySem PySem.Spec PyProof.Rows PySem.SeqAt
abbrev VKy:=Int×List Int×Int
section
variable {P:Program}{w:World}
def wO (P:Program)(w:World)(h:Heap)(k:VKy)(a:Addr):Prop :=
 ∃ (o:Obj)(u:Addr)(t t':Tok)(n:Nat),h.get? a=some o∧o.cls=.type "tuple"∧o.data=.seq #[.int k.1 t,.ref u,.int k.2.2 t'] n∧IsTupleKey (intKind P w) h k.2.1 u
theorem wO.ty {s:Shared}{k:VKy}{a:Addr}(x:wO P w s.heap k a):s.TypeIs (.ref a) "tuple":=let ⟨o,_,_,_,_,p,q,_⟩:=x;⟨o,p,q⟩
theorem wO.inj {h:Heap}{a:Addr}{x y:VKy}(hx:wO P w h x a)(hy:wO P w h y a):x=y:=by
 obtain⟨o,u,t,t',n,p,_,r,z⟩:=hx
 obtain⟨o',v,r',r'',n',p',_,q,z'⟩:=hy
 cases (p.symm.trans p')
 rw[r] at q
 injection q with q
 have q:=congrArg Array.toList q
 simp only [List.cons.injEq,Value.int.injEq,Value.ref.injEq] at q
 obtain⟨⟨e1,_⟩,e2,⟨e3,_⟩,_⟩:=q
 subst e2
 have e4:=z.inj z'
 rcases x with ⟨a1,a2,a3⟩
 rcases y with ⟨b1,b2,b3⟩
 simp only at e1 e3 e4
 rw[e1,e3,e4]
theorem wO.keeps {h h':Heap}{k:VKy}{a d:Addr}{o:Obj}{es ep}(x:wO P w h k a)(ho:h.get? d=some o)(hd:o.data=.dict es ep)(hs:Heap.SameBut d h h'):wO P w h' k a:=by
 obtain⟨o',u,t,t',n,p,q,r,z⟩:=x
 refine⟨o',u,t,t',n,(hs.2 a fun e=>?_).trans p,q,r,z.keeps ho hd hs⟩
 subst e
 cases (p.symm.trans ho)
 rw[hd] at r;cases r
def vkHash (P:Program)(w:World)(k:VKy):Int:=reduceHash (Builtin.Tuple.tupleHashOf [hashInt k.1,tupleKeyHash (intKind P w) k.2.1,hashInt k.2.2])
variable {A:Around}{E:Value→Shared→Prop}{s:Shared}
theorem vk_hash {k:VKy}{a:Addr}{Q:Int→Shared→Prop}(hu:A.units+1 < cLine)(hk:wO P w s.heap k a)(h:Q (vkHash P w k) { s with toks:=s.toks+(k.2.1.length+4) }):wpAny (model P w) A (pyHash (.ref a)) Q E s:=by
 have tT:=hk.ty
 obtain⟨o,u,t,t',n,p,_,r,z⟩:=hk
 unfold pyHash
 first | unfold pyHashByItsType | skip
 first | refine wpAny_bind (wpAny_cRoomFor_or (.inr (by omega)) ?_) | skip
 refine wpAny_bind (wpAny_specialOf tT F.slot_tuple_hash.lookup ?_)
 show wpAny _ _ (if _ then _ else _) Q E s
 rw[if_neg (by rw[beq_builtin_none];exact Bool.false_ne_true)]
 refine wpAny_bind (wpAny_specialOf tT F.slot_tuple_hash.lookup ?_)
 refine wpAny_bind (wpAny_callSpecialIfBoundUnlessNone?_slot tT F.slot_tuple_hash (wpAny_call_entry F.slot_tuple_hash tT F.entry_tuple_hash ?_ (F.args_tuple_hash_1 _)))
 refine wpAny_bind (m:=Builtin.Tuple.tupleItemsOf (.ref a)) (wpAny_tupleItemsOf p r (wpAny_bind ?_))
 rw[← Array.forIn_toList]
 simp only [List.forIn_cons,List.forIn_nil]
 refine wpAny_bind (wpAny_bind ((intKind P w).pyHash (k:=k.1) (by simp [intKind,Value.isInt]) ?_))
 refine wpAny_pure (wpAny_bind (wpAny_bind (wpAny_pyHash_tuple (s:={ s with toks:=s.toks+1 }) (ks:=k.2.1) (show A.in1.units < cLine from hu) z (wpAny_pure ?_))))
 refine wpAny_bind (wpAny_bind ((intKind P w).pyHash (k:=k.2.2) (by simp [intKind,Value.isInt]) (wpAny_pure (wpAny_pure ?_))))
 show wpAny _ _ (retInt (Builtin.Tuple.tupleHashOf [hashInt k.1,tupleKeyHash (intKind P w) k.2.1,hashInt k.2.2])) _ _ _
 have h':Q (reduceHash (Builtin.Tuple.tupleHashOf [hashInt k.1,tupleKeyHash (intKind P w) k.2.1,hashInt k.2.2])) { s with toks:=s.toks+1+(k.2.1.length+1)+1+1 }:=by
  have e:s.toks+1+(k.2.1.length+1)+1+1=s.toks+(k.2.1.length+4):=by omega
  rw[e];exact h
 clear h
 generalize Builtin.Tuple.tupleHashOf [hashInt k.1,tupleKeyHash (intKind P w) k.2.1,hashInt k.2.2]=q at h' ⊢
 refine wpAny_ret_mkInt ?_
 show wpAny _ _ (if (decide (-(2:Int)^63≤q) && decide (q < 2^63))=true then _ else _) Q E _
 unfold reduceHash at h'
 split at h'
 ·rename_i c
  rw[if_pos c];exact wpAny_pure h'
 ·rename_i c
  rw[if_neg c];exact wpAny_bind (wpAny_rule (wpAny_pure h'))
theorem vk_eqt {x y:VKy}{a b:Addr}{R:PySem.Fin→Shared→Prop}(hu:A.units < cLine)(hx:wO P w s.heap x a)(hy:wO P w s.heap y b)(h:R (.done (.ret (.bool (decide (x=y))))) s) :
  wpAny (model P w) A (Builtin.«tuple.__eq__» ⟨[.ref a,.ref b],[]⟩) R E s:=by
 have tB:=hy.ty
 obtain⟨o,u,t,t',n,p,_,r,z⟩:=hx
 obtain⟨o',v,r0,r1,n',p',_,q,z'⟩:=hy
 refine wpAny_bind (m:=isInstance (.ref b) (.type "tuple")) (wpAny_isInstance tB isSubtype_tuple_tuple ?_)
 simp only [Bool.not_true,Bool.false_eq_true,if_false]
 refine wpAny_bind (wpAny_tupleItemsOf p r (wpAny_bind (wpAny_tupleItemsOf p' q (wpAny_bind ?_))))
 rcases x with ⟨x1,x2,x3⟩
 rcases y with ⟨y1,y2,y3⟩
 dsimp only at z z' ⊢
 simp only [List.zip_cons_cons,List.zip_nil_right,List.forIn_cons,List.forIn_nil]
 refine wpAny_bind (wpAny_bind ((intKind P w).eqBool (a:=x1) (b:=y1) (by simp [intKind,Value.isInt]) (by simp [intKind,Value.isInt]) ?_))
 by_cases e1:x1=y1
 ·subst e1
  simp only [decide_true,Bool.not_true,Bool.false_eq_true,if_false]
  refine wpAny_pure (wpAny_bind (wpAny_bind (wpAny_eqBool_tuple hu z z' ?_)))
  by_cases e2:x2=y2
  ·subst e2
   simp only [decide_true,Bool.not_true,Bool.false_eq_true,if_false]
   refine wpAny_pure (wpAny_bind (wpAny_bind ((intKind P w).eqBool (a:=x3) (b:=y3) (by simp [intKind,Value.isInt]) (by simp [intKind,Value.isInt]) ?_)))
   by_cases e3:x3=y3
   ·subst e3
    simp only [decide_true,Bool.not_true,Bool.false_eq_true,if_false]
    refine wpAny_pure (wpAny_pure (wpAny_pure ?_))
    rw[decide_eq_true rfl] at h
    exact h
   ·simp only [e3,decide_false,Bool.not_false,if_true]
    rw[decide_eq_false (fun q=>e3 (by injection q with _ q;injection q))] at h
    exact wpAny_bind (wpAny_pure (wpAny_pure (wpAny_pure (wpAny_pure h))))
  ·simp only [e2,decide_false,Bool.not_false,if_true]
   rw[decide_eq_false (fun q=>e2 (by injection q with _ q;injection q))] at h
   exact wpAny_bind (wpAny_pure (wpAny_pure (wpAny_pure (wpAny_pure h))))
 ·simp only [e1,decide_false,Bool.not_false,if_true]
  rw[decide_eq_false (fun q=>e1 (by injection q))] at h
  exact wpAny_bind (wpAny_pure (wpAny_pure (wpAny_pure (wpAny_pure h))))
theorem vk_eq {x y:VKy}{a b:Addr}{Q:Bool→Shared→Prop}(hu:A.units+1 < cLine)(hx:wO P w s.heap x a)(hy:wO P w s.heap y b)(h:Q (decide (x=y)) s):wpAny (model P w) A (eqBool (.ref a) (.ref b)) Q E s:=by
 unfold eqBool
 try with_reducible refine wpAny_holding ?_
 show wpAny _ _ (if (Value.ref a == Value.ref b)=true then _ else _) Q E s
 split
 ·rename_i c
  have c:=eq_of_beq c
  injection c with c
  subst c
  obtain rfl:=hx.inj hy
  rw[decide_eq_true rfl] at h
  exact wpAny_bind (wpAny_rule (wpAny_pure h))
 ·refine wpAny_bind (wpAny_richCompare_same_room (op:=.Eq) hx.ty hy.ty F.slot_tuple_eq (wpAny_call_entry F.slot_tuple_eq hx.ty F.entry_tuple_eq ?_ (F.args_tuple_eq_2 _ _)) (by omega))
  exact vk_eqt (show A.in1.units < cLine from hu) hx hy ⟨_,rfl,(fun e=>nomatch e),wpAny_truthy_bool h⟩
theorem tk_quiet (d:Nat){ks:List Int}{a:Addr}{Q:Bool→Shared→Prop}(hk:IsTupleKey (intKind P w) s.heap ks a)(h:Q true s):wpAny (model P w) A (eqIsQuiet (d+1) (.ref a)) Q E s:=by
 have tT:=hk.typeIs
 obtain⟨o,items,n,p,_,r,i⟩:=hk
 unfold eqIsQuiet
 refine wpAny_bind (wpAny_specialOf tT F.slot_tuple_eq.lookup ?_)
 refine wpAny_bind (m:=isInstance (.ref a) (.type "tuple")) (wpAny_isInstance tT isSubtype_tuple_tuple ?_)
 simp only [Bool.not_true,Bool.false_eq_true,if_false]
 refine wpAny_bind (wpAny_seqItems p r (wpAny_bind ?_))
 show wpAny _ _ (forIn items _ _) _ _ s
 rw[← Array.forIn_toList]
 have all:=i.byValue
 generalize items.toList=l at all
 clear i
 induction l with
 | nil=>rw[List.forIn_nil];exact wpAny_pure (wpAny_pure h)
 | cons v vs ih =>
  rw[List.forIn_cons,eqIsQuiet_byValue _ (all v List.mem_cons_self)]
  refine wpAny_bind (wpAny_bind (wpAny_pure ?_))
  simp only [Bool.not_true,Bool.false_eq_true,if_false]
  exact wpAny_pure (ih fun u hu=>all u (List.mem_cons_of_mem _ hu))
theorem vk_quiet {k:VKy}{a:Addr}{Q:Bool→Shared→Prop}(hk:wO P w s.heap k a)(h:Q true s):wpAny (model P w) A (eqIsQuiet 8 (.ref a)) Q E s:=by
 have tT:=hk.ty
 obtain⟨o,u,t,t',n,p,_,r,z⟩:=hk
 unfold eqIsQuiet
 refine wpAny_bind (wpAny_specialOf tT F.slot_tuple_eq.lookup ?_)
 refine wpAny_bind (m:=isInstance (.ref a) (.type "tuple")) (wpAny_isInstance tT isSubtype_tuple_tuple ?_)
 simp only [Bool.not_true,Bool.false_eq_true,if_false]
 refine wpAny_bind (wpAny_seqItems p r (wpAny_bind ?_))
 show wpAny _ _ (forIn #[Value.int k.1 t,.ref u,.int k.2.2 t'] _ _) _ _ s
 rw[← Array.forIn_toList]
 simp only [List.forIn_cons,List.forIn_nil]
 rw[eqIsQuiet_byValue _ (show carriedByValue (.int k.1 t)=true from rfl),eqIsQuiet_byValue _ (show carriedByValue (.int k.2.2 t')=true from rfl)]
 refine wpAny_bind (wpAny_bind (wpAny_pure ?_))
 simp only [Bool.not_true,Bool.false_eq_true,if_false]
 refine wpAny_pure (wpAny_bind (wpAny_bind (tk_quiet 6 z ?_)))
 simp only [Bool.not_true,Bool.false_eq_true,if_false]
 refine wpAny_pure (wpAny_bind (wpAny_bind (wpAny_pure ?_)))
 simp only [Bool.not_true,Bool.false_eq_true,if_false]
 exact wpAny_pure (wpAny_pure (wpAny_pure h))
end
def vKind (P:Program)(w:World):HeapKind P w VKy where
 is:=wO P w
 hash:=vkHash P w
 draws:=fun k=>k.2.1.length+4
 room:=fun A=>A.units+1 < cLine
 inj:=wO.inj
 keeps:=wO.keeps
 pyHash:=vk_hash
 eqBool:=vk_eq
 quiet:=vk_quiet
end L2
namespace L2
open PySem PySem.Spec PyProof.Rows PySem.SeqAt
def DEn (h:Heap)(d:Addr)(es:Array DictEntry)(ep:Nat):Prop:=∃ o,h.get? d=some o∧o.ExactDict∧o.data=.dict es ep
theorem DEn.ty {s:Shared}{d:Addr}{es:Array DictEntry}{ep:Nat}(x:DEn s.heap d es ep):s.TypeIs (.ref d) "dict":=let ⟨o,p,q,_⟩:=x;⟨o,p,q.1⟩
section
variable {P:Program}{w:World}{A:Around}{E:Value→Shared→Prop}{s:Shared}{it d:Addr}{es:Array DictEntry}{ep i:Nat}
theorem den_iter {Q:Value→Shared→Prop}(nd:(d == sysModules)=false)(x:DEn s.heap d es ep)
  (q:Q (.ref s.heap.objs.size) { s with heap:=s.heap.push { cls:=.type "dict_keyiterator",data:=.fields #[.ref d,.int 0 0,.int es.size 0,.int ep 0] } }):wpAny (model P w) A (pyIter (.ref d)) Q E s:=by
 have tT:=x.ty
 obtain⟨o,p,r,z⟩:=x
 refine wpAny_pyIter_slot tT F.slot_dict_iter (wpAny_call_entry F.slot_dict_iter tT F.entry_dict_iter (?_:wpAny _ _ (Builtin.«dict.__iter__» _) _ _ _) (F.args_dict_iter_1 _))
 unfold Builtin.«dict.__iter__» Builtin.Dict.dictSlotNone Builtin.Dict.showsAll
 refine wpAny_bind (wpAny_bind (wpAny_notOrdered_dict tT (wpAny_pure (a:=Value.ref d) ?_)))
 show wpAny _ _ (bind (if (d == sysModules)=true then _ else _) _) _ _ s
 rw[if_neg (by rw[nd];decide)]
 refine wpAny_bind (wpAny_pure (wpAny_bind (wpAny_dictEntries p z (wpAny_bind (wpAny_dictEpoch p z ?_)))))
 exact wpAny_bind (wpAny_newObj_type (wpAny_pure ⟨_,rfl,"dict_keyiterator",_,⟨_,Heap.get?_push_size _ rfl,rfl⟩,F.slot_dict_keyiterator_next.lookup,q⟩))
theorem den_next {Q:Option Value→Shared→Prop}(t:s.heap.IsKeyIter it d i es.size ep)(x:DEn s.heap d es ep){e:DictEntry}(he:es[i]?=some e)
  (q:∀ h',h'.IsKeyIter it d (i+1) es.size ep→Heap.SameBut it s.heap h'→Q (some e.key) { s with heap:=h' }):wpAny (model P w) A (pyNext (.ref it)) Q E s:=by
 have tT:=t.typeIs
 obtain⟨o,p,c,r⟩:=t
 obtain⟨o',p',c',r'⟩:=x
 unfold pyNext
 refine wpAny_bind (wpAny_attempt (wpAny_callSpecial?_slot (name:=Str.ofString "__next__") tT F.slot_dict_keyiterator_next (wpAny_call_entry F.slot_dict_keyiterator_next tT F.entry_dict_keyiterator_next ?_ (F.args_dict_keyiterator_next_1 _))))
 refine wpAny_bind (wpAny_pure (wpAny_bind (wpAny_bind ?_)))
 first | refine wpAny_bind (wpAny_typeNameOfWhole_keyiter tT (wpAny_pure (wpAny_bind (wpAny_fieldsOf p r ?_)))) | refine wpAny_bind (wpAny_typeNameOf_keyiter tT (wpAny_pure (wpAny_bind (wpAny_fieldsOf p r ?_))))
 rw[show Builtin.Dict_items.ownsTuple "dict_keyiterator"=false by decide]
 simp only [Bool.false_eq_true,if_false]
 show wpAny _ _ (if (Value.ref d == .none)=true then _ else _) _ _ _
 rw[if_neg (by simp:¬ (Value.ref d == .none)=true)]
 refine wpAny_bind (wpAny_pure (wpAny_bind (wpAny_dictEntries p' r' ?_)))
 rw[if_neg (by simp)]
 refine wpAny_bind (wpAny_pure (wpAny_bind (wpAny_dictEpoch p' r' ?_)))
 rw[if_neg (by simp)]
 refine wpAny_pure ?_
 simp only [show ¬ ((i:Int) < 0) by omega,if_false,Int.toNat_natCast,he]
 have t':(s.heap.update it (Obj.mapFields (·.setIfInBounds 1 (rawInt ((i:Int)+1))))).IsKeyIter it d (i+1) es.size ep :=
  ⟨_,Heap.get?_update_self _ p (Obj.isFreed_of_fields (Obj.data_mapFields r _)),(Obj.cls_mapFields ..).trans c,by rw[Obj.data_mapFields r];simp [rawInt]⟩
 refine wpAny_bind ?_
 first | refine wpAny_bind (wpAny_typeNameOfWhole_keyiter tT (wpAny_pure (wpAny_bind (wpAny_isOneOf_keyiter tT ?_)))) | refine wpAny_bind (wpAny_typeNameOf_keyiter tT (wpAny_pure (wpAny_bind (wpAny_isOneOf_keyiter tT ?_))))
 refine wpAny_bind (m:=setField (.ref it) 1 (rawInt ((i:Int)+1))) (wpAny_setField p r (by simp) (wpAny_bind (wpAny_holding (wpAny_bind ?_))))
 refine wpAny_isOneOf_keyiter (s:={ s with heap:=s.heap.update it (Obj.mapFields (·.setIfInBounds 1 (rawInt ((i:Int)+1)))) }) t'.typeIs ?_
 exact wpAny_pure (a:=e.key) (wpAny_pure ⟨_,rfl,wpAny_pure (q _ t' (Heap.SameBut.update ..))⟩)
theorem den_end {Q:Option Value→Shared→Prop}(hh:A.handled=none)(t:s.heap.IsKeyIter it d i es.size ep)(x:DEn s.heap d es ep)(he:es.size≤i)
  (q:∀ h',Heap.ExtBut it s.heap h'→Q none { s with heap:=h' }):wpAny (model P w) A (pyNext (.ref it)) Q E s:=by
 have tT:=t.typeIs
 obtain⟨o,p,c,r⟩:=t
 obtain⟨o',p',c',r'⟩:=x
 unfold pyNext
 refine wpAny_bind (wpAny_attempt (wpAny_callSpecial?_slot (name:=Str.ofString "__next__") tT F.slot_dict_keyiterator_next (wpAny_call_entry F.slot_dict_keyiterator_next tT F.entry_dict_keyiterator_next ?_ (F.args_dict_keyiterator_next_1 _))))
 refine wpAny_bind (wpAny_pure (wpAny_bind (wpAny_bind ?_)))
 first | refine wpAny_bind (wpAny_typeNameOfWhole_keyiter tT (wpAny_pure (wpAny_bind (wpAny_fieldsOf p r ?_)))) | refine wpAny_bind (wpAny_typeNameOf_keyiter tT (wpAny_pure (wpAny_bind (wpAny_fieldsOf p r ?_))))
 rw[show Builtin.Dict_items.ownsTuple "dict_keyiterator"=false by decide]
 simp only [Bool.false_eq_true,if_false]
 show wpAny _ _ (if (Value.ref d == .none)=true then _ else _) _ _ _
 rw[if_neg (by simp:¬ (Value.ref d == .none)=true)]
 refine wpAny_bind (wpAny_pure (wpAny_bind (wpAny_dictEntries p' r' ?_)))
 rw[if_neg (by simp)]
 refine wpAny_bind (wpAny_pure (wpAny_bind (wpAny_dictEpoch p' r' ?_)))
 rw[if_neg (by simp)]
 refine wpAny_pure ?_
 simp only [show ¬ ((i:Int) < 0) by omega,if_false,Int.toNat_natCast,Array.getElem?_eq_none he]
 refine wpAny_bind ?_
 first | refine wpAny_bind (wpAny_typeNameOfWhole_keyiter tT (wpAny_pure ?_)) | refine wpAny_bind (wpAny_typeNameOf_keyiter tT (wpAny_pure ?_))
 refine wpAny_bind (m:=setField (.ref it) 0 .none) (wpAny_setField p r (by simp) (wpAny_bind (m:=newExc (.type "StopIteration") []) ?_))
 simp only [newExc,newTuple]
 refine wpAny_bind (wpAny_newObj_type (wpAny_bind (m:=firstArgMember _ _) (wpAny_of_eq (a:=Value.none) (by first | rfl | (simp only [firstArgMember];rfl)) (wpAny_newObj_type ?_ (by size_fits)))) (by size_fits))
 simp only [raiseNew]
 refine wpAny_bind (wpAny_handled ?_)
 rw[show A.in1.handled=none from hh]
 refine wpAny_bind (wpAny_pure (wpAny_throw (wpAny_bind ?_)))
 refine wpAny_isInstance (b:=true) (T:="StopIteration") ⟨_,Heap.get?_push_size _ rfl,rfl⟩ isSubtype_stop ?_
 exact wpAny_pure (q _ (((Heap.SameBut.update ..).extBut.push _).push _))
theorem den_walk (hh:A.handled=none)(ne:d≠it):Walks P w A it [it,d] [it] es.size (fun i v=>∃ e,es[i]?=some e∧v=e.key) (fun i h=>h.IsKeyIter it d i es.size ep∧DEn h d es ep) where
 sub:=fun b hb=>by simp at hb;simp [hb]
 frame:=fun _ _ _ st hk=>⟨let ⟨o,p,r⟩:=st.1;⟨o,hk it (by simp) _ p,r⟩,let ⟨o,p,r⟩:=st.2;⟨o,hk d (by simp) _ p,r⟩⟩
 item:=fun i s Q E hi st hQ=>by
  refine den_next (e:=es[i]) st.1 st.2 (by simp [hi]) fun h' t' sb=>?_
  exact hQ _ h' s.toks ⟨_,by simp [hi],rfl⟩ ⟨t',let ⟨o,p,r⟩:=st.2;⟨o,sb.extBut d o ne p,r⟩⟩ fun b o hb e=>sb.extBut b o (fun h=>hb (by simp [h])) e
 done:=fun s Q E st hQ=>den_end hh st.1 st.2 (Nat.le_refl _) fun h' ex=>hQ h' s.toks fun b o hb e=>ex b o (fun h=>hb (by simp [h])) e
 self:=fun _ _ _ _ st hQ=>wpAny_pyIter_keyiter st.1 hQ
theorem den_ext {R:Result→Shared→Prop}(hh:A.handled=none)(nd:(d == sysModules)=false){S:Addr}{c0:Nat}(ne:d≠S)(hS:s.heap.get? S=some { cls:=.type "list",data:=.seq #[] c0 })(x:DEn s.heap d es ep)(hz:es.size≤sizeLine)
  (q:∀ s' its c',Moved [S,s.heap.objs.size] (fun a b=>b=a) s s'→s'.heap.get? S=some { cls:=.type "list",dict:=none,data:=.seq its c',slots:=#[] }→its.toList=es.toList.map (·.key)→R (.ok (.ret .none)) s') :
  wpAny (model P w) A.in1 (Builtin.List.listExtendWith (.ref S) (.ref d) .none) (fun fin s'=>match fin with | .done f=>R (.ok f) s' | .again c'=>c'.quiet=true∧codeAny (model P w) A c' R s') (fun e s'=>R (.error e) s') s:=by
 unfold Builtin.List.listExtendWith
 refine wpAny_bind (wpAny_typeOf x.ty ?_)
 rw[if_neg (by simp [Builtin.List.listSameRef,Ne.symm ne])]
 refine wpAny_bind (den_iter nd x (wpAny_bind (wpAny_holding ?_)))
 have xx:=x
 obtain⟨o,p,c,r⟩:=xx
 have p1:=Heap.get?_push_of_some { cls:=.type "dict_keyiterator",data:=.fields #[.ref d,.int 0 0,.int es.size 0,.int ep 0] } p
 unfold Builtin.List.listLengthHint
 refine wpAny_bind (wpAny_specialOf (T:="dict") ⟨o,p1,c.1⟩ F.slot_dict_len.lookup ?_)
 generalize hid:("dict.__len__":String)=id0
 wp_delta
 rw[show splitId id0=some ("dict","__len__") from by subst hid;decide +kernel]
 subst hid
 refine wpAny_bind (wpAny_isInstance (b:=true) (T:="dict") ⟨o,p1,c.1⟩ (by rw[isSubtype_type];kernel_rfl) ?_)
 simp only [Bool.not_true,Bool.false_eq_true,if_false]
 rw[if_pos (by decide +kernel)]
 refine wpAny_bind (wpAny_typeOf (T:="dict") ⟨o,p1,c.1⟩ (wpAny_pure ?_))
 rw[if_pos (by decide +kernel)]
 have nI:s.heap.objs.size≠S:=fun e=>Nat.lt_irrefl _ (e▸Heap.lt_size hS)
 have nI':d≠s.heap.objs.size:=fun e=>Nat.lt_irrefl _ (e▸Heap.lt_size p)
 have a1:=Heap.get?_push_of_some { cls:=.type "dict_keyiterator",data:=.fields #[.ref d,.int 0 0,.int es.size 0,.int ep 0] } hS
 have b1:=Heap.get?_push_size s.heap (o:={ cls:=.type "dict_keyiterator",data:=.fields #[.ref d,.int 0 0,.int es.size 0,.int ep 0] }) rfl
 generalize eh1:s.heap.push { cls:=.type "dict_keyiterator",data:=.fields #[.ref d,.int 0 0,.int es.size 0,.int ep 0] }=h1 at a1 b1 p1 ⊢
 have k1:∀ b o,s.heap.get? b=some o→h1.get? b=some o:=fun b o e=>by rw[← eh1];exact Heap.get?_push_of_some _ e
 refine wpAny_bind (wpAny_rule (wpAny_bind (m:=Builtin.List.listTouch (.ref S)) (wpAny_bind (m:=updateSeq S (·.push .none)) (wpAny_updateSeq (s:={ s with heap:=h1 }) a1 rfl ?_))))
 have a2:=Heap.get?_update_self (Obj.mapSeq (·.push Value.none)) a1 rfl
 have k2:∀ b o,b≠S→h1.get? b=some o→(h1.update S (Obj.mapSeq (·.push Value.none))).get? b=some o:=fun b o n e=>(Heap.get?_update_other _ _ (Ne.symm n)).trans e
 generalize h1.update S (Obj.mapSeq (·.push Value.none))=h2 at a2 k2 ⊢
 refine wpAny_updateSeq (s:={ s with heap:=h2 }) a2 rfl ?_
 have a3:=Heap.get?_update_self (Obj.mapSeq (·.pop)) a2 rfl
 have k3:∀ b o,b≠S→h2.get? b=some o→(h2.update S (Obj.mapSeq (·.pop))).get? b=some o:=fun b o n e=>(Heap.get?_update_other _ _ (Ne.symm n)).trans e
 dsimp only
 generalize h2.update S (Obj.mapSeq (·.pop))=h3 at a3 k3 ⊢
 have W:=(den_walk (P:=P) (w:=w) (A:=A.in1.in1) (it:=s.heap.objs.size) (d:=d) (es:=es) (ep:=ep) hh nI').toS
 have W:=WalksS.of_in1 W
 have k13:∀ b o,b≠S→h1.get? b=some o→h3.get? b=some o:=fun b o n e=>k3 b o n (k2 b o n e)
 refine wpAny_pure ⟨plainId_quiet F.plain_extend_loop _,codeAny_extend_loopS W hz S (by simp [ne,Ne.symm ne,Ne.symm nI]) .none es.size 0 { s with heap:=h3 } #[] _ rfl (Nat.zero_le _) ⟨⟨_,k13 _ _ nI b1,rfl,rfl⟩,⟨o,k13 _ _ ne p1,c,r⟩⟩ a3 (ItemsOf.nil _) fun s' acc c' mv hS' it=>?_⟩
 refine q s' acc c' ⟨fun b ob hb e=>mv.heap b ob hb (k13 b ob (fun z=>hb (by simp [z])) (k1 b ob e)),mv.gens,mv.drawn,mv.os,mv.toks⟩ hS' ?_
 obtain⟨sz,all⟩:=it
 apply List.ext_getElem?
 intro j
 rw[List.getElem?_map,Array.getElem?_toList,Array.getElem?_toList]
 rcases Nat.lt_or_ge j acc.size with hj | hj
 ·obtain⟨e,he,hv⟩:=all j acc[j] (by simp [hj])
  rw[he,Array.getElem?_eq_getElem hj,hv];rfl
 ·rw[Array.getElem?_eq_none hj,Array.getElem?_eq_none (by omega)];rfl
theorem call_list_den {Q:Value→Shared→Prop}(hh:A.handled=none)(nd:(d == sysModules)=false)(x:DEn s.heap d es ep)(hz:es.size≤sizeLine)
  (q:∀ h' tk its c',(∀ b o,s.heap.get? b=some o→h'.get? b=some o)→h'.get? s.heap.objs.size=some { cls:=.type "list",dict:=none,data:=.seq its c',slots:=#[] }→its.toList=es.toList.map (·.key)→Q (.ref s.heap.objs.size) { s with heap:=h',toks:=tk }) :
  wpAny (model P w) A (call (.type "list") [.ref d]) Q E s:=by
 have ne:d≠s.heap.objs.size:=fun e=>Nat.lt_irrefl _ (e▸(let ⟨_,p,_⟩:=x;Heap.lt_size p))
 refine callType_codes (Q₁:=fun ob s₁=>ob=.ref s.heap.objs.size∧s₁={ s with heap:=s.heap.push { cls:=.type "list",data:=.seq #[] } }) F.called_list (F.typeCall_list_1 _) F.entry_list_init (code_list_new _ ⟨rfl,rfl⟩) fun ob s₁ z=>?_
 obtain⟨rfl,rfl⟩:=z
 have a1:=Heap.get?_push_size s.heap (o:={ cls:=.type "list",data:=.seq #[] }) rfl
 have k1:∀ b o,s.heap.get? b=some o→(s.heap.push { cls:=.type "list",data:=.seq #[] }).get? b=some o:=fun b o e=>Heap.get?_push_of_some _ e
 have z1:(s.heap.push { cls:=.type "list",data:=.seq #[] }).objs.size=s.heap.objs.size+1:=size_push' ..
 generalize s.heap.push { cls:=.type "list",data:=.seq #[] }=h1 at a1 k1 z1 ⊢
 refine⟨⟨_,a1,rfl⟩,F.args_list_init_2 _ _,?_⟩
 refine wpAny_bind (m:=Builtin.List.listItems (.ref s.heap.objs.size)) (wpAny_bind (wpAny_seqItems a1 rfl (wpAny_pure ?_)))
 refine wpAny_bind (m:=updateSeq s.heap.objs.size (fun _=>#[])) (wpAny_updateSeq a1 rfl (wpAny_bind (wpAny_letGo ?_)))
 have a2:=Heap.get?_update_self (Obj.mapSeq (fun _=>(#[]:Array Value))) a1 rfl
 have k2:∀ b o,b≠s.heap.objs.size→h1.get? b=some o→(h1.update s.heap.objs.size (Obj.mapSeq (fun _=>(#[]:Array Value)))).get? b=some o:=fun b o n e=>(Heap.get?_update_other _ _ (Ne.symm n)).trans e
 have z2:(h1.update s.heap.objs.size (Obj.mapSeq (fun _=>(#[]:Array Value)))).objs.size=s.heap.objs.size+1:=(Heap.size_update ..).trans z1
 dsimp only
 generalize h1.update s.heap.objs.size (Obj.mapSeq (fun _=>(#[]:Array Value)))=h2 at a2 k2 z2 ⊢
 refine den_ext (A:=A.in1) (s:={ s with heap:=h2 }) hh nd ne a2 (let ⟨o,p,r⟩:=x;⟨o,k2 _ _ ne (k1 _ _ p),r⟩) hz fun s' its c' mv hS' hk=>⟨rfl,?_⟩
 have e:s'={ s with heap:=s'.heap,toks:=s'.toks }:=by
  have g:=mv.gens
  have dr:=mv.drawn
  have os:=mv.os
  cases s'
  simp only at g dr os
  subst g dr os
  rfl
 rw[e]
 refine q _ _ its c' (fun b o h=>?_) hS' hk
 have lt:=Heap.lt_size h
 refine mv.heap b o (by simp only [List.mem_cons,List.not_mem_nil,or_false,not_or,z2];exact⟨Nat.ne_of_lt lt,Nat.ne_of_lt (Nat.lt_succ_of_lt lt)⟩) (k2 b o (Nat.ne_of_lt lt) (k1 b o h))
end
def dvP (P:Program)(w:World)(a:Addr)(xs:List (VKy×Addr×Value))(h:Heap):Prop :=
 (a == sysModules)=false∧xs.length≤100000∧(xs.map (·.1)).Nodup∧∃ es ep,DEn h a es ep∧es.toList=xs.map (entryOfKey (vKind P w))
def dvO (P:Program)(w:World)(a:Addr)(xs:List (VKy×Addr×Value)):HO:=.ext (dvP P w a xs)
def dvK (H:Hp)(xs:List (VKy×Addr×Value)):Prop:=∀ x∈xs,vU H x.2.1 x.1.1 x.1.2.1 x.1.2.2
theorem dv_ok {P:Program}{w:World}{H:Hp}{h:Heap}{a:Addr}{xs:List (VKy×Addr×Value)}(x:dvP P w a xs h):vY P w H h a (dvO P w a xs) :=
 ⟨x,let ⟨_,_,_,_,_,⟨o,e,_⟩,_⟩:=x;⟨o,e⟩,fun h1 h2 y k=>let ⟨y1,y2,y3,es,ep,⟨o,e,r⟩,z⟩:=y;⟨y1,y2,y3,es,ep,⟨o,k _ e,r⟩,z⟩⟩
theorem dv_of {P:Program}{w:World}{H:Hp}{h:Heap}{a:Addr}{xs:List (VKy×Addr×Value)}(ok:HOk P w H h)(e:H a=some (dvO P w a xs)):dvP P w a xs h:=(show vY P w H h a (dvO P w a xs) from ok a _ e).1
theorem ints_key {P:Program}{w:World}:∀ {ws:List Int}{us:List Value},Vals (ws.map V.int) us→ItemsAre (intKind P w) ws us
 | [],_,r=>by rw[List.map_nil] at r;cases r;exact .nil
 | k::ks,_,r=>by
  rw[List.map_cons] at r
  cases r with
  | cons h t=>exact .cons (by obtain⟨t,e⟩:=(show ∃ t,_=Value.int k t from h);subst e;simp [intKind,Value.isInt]) (ints_key t)
theorem vl_key {P:Program}{w:World}{H:Hp}{h:Heap}{a:Addr}{k:VKy}(ok:HOk P w H h)(v:vU H a k.1 k.2.1 k.2.2):wO P w h k a:=by
 obtain⟨u,e1,e2⟩:=v
 obtain⟨_,its,r,o,h1,h2,n,h3⟩:=(show vY P w H h a (.tup [.int k.1,.ref u,.int k.2.2]) from ok a _ e1)
 obtain⟨_,its',r',o',g1,g2,n',g3⟩:=(show vY P w H h u (.tup (k.2.1.map V.int)) from ok u _ e2)
 cases r with
 | cons a1 r =>
  cases r with
  | cons a2 r =>
   cases r with
   | cons a3 r =>
    cases r
    obtain⟨t,rfl⟩:=a1
    cases a2
    obtain⟨t',rfl⟩:=a3
    exact⟨o,u,t,t',n,h1,h2,h3,o',its'.toArray,n',g1,g2,g3,by simpa using ints_key r'⟩
section
variable {X:Cx}{pins:List (Addr×Obj)}{σ:St}{H:Hp}{s:Shared}{a b:Addr}{A:Around}{E:Value→Shared→Prop}{xs:List (VKy×Addr×Value)}{k:VKy}
theorem dv_dict {h:Heap}(ok:HOk X.prog X.w H h)(e:H a=some (dvO X.prog X.w a xs))(hk:dvK H xs):h.DictOfH (vKind X.prog X.w) a xs:=by
 obtain⟨_,_,n,es,ep,⟨o,e1,e2,e3⟩,z⟩:=dv_of ok e
 exact⟨o,es,ep,e1,e2,e3,z,fun x hx=>vl_key ok (hk x hx),n⟩
theorem storedH_len (xs:List (VKy×Addr×Value))(k:VKy)(a:Addr)(v:Value):(storedH xs k a v).length≤xs.length+1:=by
 unfold storedH
 split
 ·rw[List.length_map];omega
 ·rw[List.length_append];simp
theorem dv_set {v:Value}{Q:Unit→Shared→Prop}(hu:A.units+2 < cLine)(I:Inv X pins σ H s)(e:H a=some (dvO X.prog X.w a xs))(hk:dvK H xs)(hb:vU H b k.1 k.2.1 k.2.2)(hl:xs.length < 100000)
  (h:∀ s',Inv X pins σ (upd H a (dvO X.prog X.w a (storedH xs k b v))) s'→Q () s'):wpAny (model X.prog X.w) A (setItem (.ref a) (.ref b) v) Q E s:=by
 have dd:=dv_dict I.hok e hk
 have z:=dv_of I.hok e
 refine wpAny_setItem_heap (knd:=vKind X.prog X.w) (k:=k) (hsz:=by rw[sizeLine_eq];omega) (show A.in1.units+1 < cLine from hu) (vl_key I.hok hb) dd fun h' dd' hs=>h _ ?_
 obtain⟨o,es,ep,e1,e2,e3,e4,_,e5⟩:=dd'
 refine d_write I (by rw[e];exact True.intro) hs ⟨o,e1⟩ (dv_ok ⟨z.1,?_,e5,es,ep,⟨o,e1,e2,e3⟩,e4⟩)
 have:=storedH_len xs k b v
 omega
end
abbrev dvT (ys:List (VKy×Addr)):List (VKy×Addr×Value):=ys.map fun y=>(y.1,y.2,.bool true)
def dvA (P:Program)(w:World)(H:Hp)(a:Addr)(ys:List (VKy×Addr)):Prop:=H a=some (dvO P w a (dvT ys))∧∀ y∈ys,vU H y.2 y.1.1 y.1.2.1 y.1.2.2
def dvPut (ys:List (VKy×Addr))(k:VKy)(b:Addr):List (VKy×Addr):=if k∈ys.map (·.1) then ys else ys ++ [(k,b)]
theorem atKey_dvT (ys:List (VKy×Addr))(k:VKy):(atKey (dvT ys) k).isSome=true↔k∈ys.map (·.1):=by
 unfold atKey
 rw[Option.isSome_map,List.find?_isSome]
 constructor
 ·rintro⟨x,hx,e⟩
  obtain⟨y,hy,rfl⟩:=List.mem_map.mp hx
  exact List.mem_map.mpr ⟨y,hy,of_decide_eq_true e⟩
 ·intro h
  obtain⟨y,hy,e⟩:=List.mem_map.mp h
  exact⟨_,List.mem_map.mpr ⟨y,hy,rfl⟩,decide_eq_true e⟩
theorem dvT_put (ys:List (VKy×Addr))(k:VKy)(b:Addr):storedH (dvT ys) k b (.bool true)=dvT (dvPut ys k b):=by
 unfold storedH dvPut
 by_cases h:k∈ys.map (·.1)
 ·rw[if_pos ((atKey_dvT ys k).mpr h),if_pos h,List.map_map]
  refine List.map_congr_left fun y _=>?_
  show putAt k (.bool true) (y.1,y.2,.bool true)=_
  unfold putAt
  split <;> rfl
 ·rw[if_neg (fun z=>h ((atKey_dvT ys k).mp z)),if_neg h];unfold dvT;rw[List.map_append];rfl
def tDNewV (P:Program)(w:World):TE:=fun _ H Q=>∀ p,H p=none→Q (.ref p) (upd H p (dvO P w p (dvT [])))
def sDPutV (P:Program)(w:World)(td ty tv:TE):TS:=fun D σ H=>tv σ H fun v H1=>td σ H1 fun x H2=>ty σ H2 fun y H3=>∃ (a b:Addr)(ys:List (VKy×Addr))(k:VKy),v=.bl true∧x=.ref a∧y=.ref b∧dvA P w H3 a ys∧vU H3 b k.1 k.2.1 k.2.2∧ys.length < 100000∧D.nx σ (upd H3 a (dvO P w a (dvT (dvPut ys k b))))
theorem hu2 {A:Around}{k:Nat}(hr:zBu k A):A.units+2 < cLine:=by have:=hr.un;omega
theorem vU.updE {H:Hp}{a t:Addr}{φ ψ:Heap→Prop}{m c:Int}{ws:List Int}(h:H a=some (.ext φ))(v:vU H t m ws c):vU (upd H a (.ext ψ)) t m ws c :=
 let ⟨u,x,y⟩:=v;⟨u,(zK (zEs x h (fun z=>by cases z))).trans x,(zK (zEs y h (fun z=>by cases z))).trans y⟩
theorem dvA.put {P:Program}{w:World}{H:Hp}{a b:Addr}{ys:List (VKy×Addr)}{k:VKy}(h:dvA P w H a ys)(v:vU H b k.1 k.2.1 k.2.2):dvA P w (upd H a (dvO P w a (dvT (dvPut ys k b)))) a (dvPut ys k b):=by
 refine⟨zH,fun y hy=>vU.updE h.1 ?_⟩
 unfold dvPut at hy
 split at hy
 ·exact h.2 y hy
 ·rcases List.mem_append.mp hy with z | z
  ·exact h.2 y z
  ·rw[List.mem_singleton.mp z];exact v
theorem dvA.same {P:Program}{w:World}{H H':Hp}{a:Addr}{ys:List (VKy×Addr)}(h:dvA P w H a ys)(s:zP H H'):dvA P w H' a ys:=⟨s _ _ h.1,fun y hy=>(h.2 y hy).same s⟩
section
variable {X:Cx}{o i e value:Expr}{pos pos':Pos}{td ty tv:TE}
theorem pe_dnewV:PE X (.Dict [] [] pos) (tDNewV X.prog X.w):=fun pins s σ H Q I h =>
 wpAny_Dict_empty ⟨.ref s.heap.objs.size,_,I.laid (a:=s.heap.objs.size) (o:=dvO X.prog X.w s.heap.objs.size (dvT [])) (t':=s.toks) (fun _ _ q=>Heap.get?_push_of_some _ q) (Nat.le_refl _)
  (dv_ok ⟨beq_eq_false_iff_ne.mpr (Ne.symm (Nat.ne_of_lt I.big)),Nat.zero_le _,List.nodup_nil,#[],0,⟨_,Heap.get?_push_size _ rfl,⟨rfl,rfl,rfl⟩,rfl⟩,rfl⟩),rfl,h _ (I.hok.fresh (Nat.le_refl _))⟩
theorem ps_dputV (hu:X.A.units+2 < cLine)(ho:PE X o td)(hi:PE X i ty)(hv:PE X value tv)(hs:swapsWith value (some (.Subscript o i pos')) pos.line X.env=pure false):PS X (.Assign [.Subscript o i pos'] value pos) (sDPutV X.prog X.w td ty tv):=by
 intro pins s σ H D I h
 refine wpAny_Assign_Subscript (thn (hv pins s σ H _ I h) fun r s1 ⟨v,H1,I1,rv,q1⟩=>thn (ho pins s1 σ H1 _ I1 q1) fun u s2 ⟨x,H2,I2,rx,q2⟩=>thn (hi pins s2 σ H2 _ I2 q2) fun iv s3 ⟨y,H3,I3,ry,a,b,ys,k,ev,ex,ey,da,vb,l,q3⟩=>?_) hs
 subst ev ex ey
 obtain rfl:u=Value.ref a:=rx
 obtain rfl:iv=Value.ref b:=ry
 obtain rfl:r=Value.bool true:=rv
 refine dv_set hu I3 da.1 (fun x hx=>?_) vb (by rw[List.length_map];exact l) fun s4 I4=>⟨σ,_,I4,?_⟩
 ·obtain⟨y,hy,rfl⟩:=List.mem_map.mp hx
  exact da.2 y hy
 ·rw[dvT_put];exact q3
theorem call_listV (hh:X.A.handled=none):j4 X (.type "list") (fun xs H Q=>∃ (a:Addr)(ys:List (VKy×Addr)),xs=[.ref a]∧dvA X.prog X.w H a ys∧∀ l,H l=none→Q (.ref l) (upd H l (.lst (ys.map fun y=>.ref y.2)))):=by
 intro pins s σ H xs us Q I r h
 obtain⟨a,ys,rfl,da,q⟩:=h
 obtain⟨u,rfl,rx⟩:=vals1 r
 cases rx
 obtain⟨nd,l,n,es,ep,x,z⟩:=dv_of I.hok da.1
 have ln:es.size=ys.length:=by rw[← Array.length_toList,z,List.length_map,List.length_map]
 rw[List.length_map] at l
 have hz:ys.length≤sizeLine:=by rw[sizeLine_eq];omega
 refine call_list_den hh nd x (by omega) fun h' tk its c' kp e ek=>?_
 refine⟨.ref s.heap.objs.size,_,I.laid (t':=tk) kp (Nat.le_refl _) (show vY X.prog X.w _ h' _ (.lst (ys.map fun y=>.ref y.2)) from ⟨by rw[List.length_map];exact hz,its.toList,c',?_,e⟩),rfl,q _ (I.hok.fresh (Nat.le_refl _))⟩
 rw[ek,z,List.map_map,List.map_map]
 clear da z ek ln l hz q n
 induction ys with
 | nil=>exact .nil
 | cons y ys ih=>exact .cons rfl ih
theorem pe_dnewVK {P:Program}{w:World}(h1:X.prog=P)(h2:X.w=w):PE X (.Dict [] [] pos) (tDNewV P w):=by subst h1 h2;exact pe_dnewV
theorem ps_dputVK {P:Program}{w:World}(h1:X.prog=P)(h2:X.w=w)(hu:X.A.units+2 < cLine)(ho:PE X o td)(hi:PE X i ty)(hv:PE X value tv)(hs:swapsWith value (some (.Subscript o i pos')) pos.line X.env=pure false):PS X (.Assign [.Subscript o i pos'] value pos) (sDPutV P w td ty tv):=by subst h1 h2;exact ps_dputV hu ho hi hv hs
theorem call_listVK {P:Program}{w:World}(h1:X.prog=P)(h2:X.w=w)(hh:X.A.handled=none):j4 X (.type "list") (fun xs H Q=>∃ (a:Addr)(ys:List (VKy×Addr)),xs=[.ref a]∧dvA P w H a ys∧∀ l,H l=none→Q (.ref l) (upd H l (.lst (ys.map fun y=>.ref y.2)))):=by subst h1 h2;exact call_listV hh
end
end L2
namespace Sv
open PySem PyProof.Rows
structure Sb (k:SortKind)(z:Array Keyed)(t:SortSt):Prop where
 pm:(arrOf t).Perm z
 kd:kindOf t=k
 fl:failedOf t=none
 pd:pendingOf t=#[]
theorem Sb.put {k:SortKind}{z:Array Keyed}{t:SortSt}(h:Sb k z t){xs:Array Keyed}(p:xs.Perm (arrOf t)):Sb k z (setArr t xs):=⟨p.trans h.pm,h.kd,h.fl,h.pd⟩
def Lk (P:Program)(w:World)(A:Around)(s:Shared)(κ:KeyKind)(k:SortKind):Prop :=
 ∀ (E:Value→Shared→Prop)(x y:Value)(a b:κ.α)(Q:Bool→Shared→Prop),κ.keyOf x=some a→κ.keyOf y=some b→Q (κ.blt a b) s→wpAny (model P w) A (keyLt' k x y) Q E s
def Ul (κ:KeyKind)(z:Array Keyed):Prop:=KeysOf κ z∧(z.toList.map fun p=>κ.keyOf p.1).Nodup
def Rise (κ:KeyKind)(xs:Array Keyed)(m:Nat):Prop:=∀ i,i+1 < m→κ.klt (KK κ xs i) (KK κ xs (i+1))
def Fall (κ:KeyKind)(xs:Array Keyed)(m:Nat):Prop:=∀ i,i+1 < m→κ.klt (KK κ xs (i+1)) (KK κ xs i)
section
variable {κ:KeyKind}{k:SortKind}{z:Array Keyed}{t:SortSt}
theorem Sb.key (B:Sb k z t)(U:Ul κ z){i:Nat}(hi:i < z.size):∃ x p a,(arrOf t)[i]?=some (x,p)∧κ.keyOf x=some a∧KK κ (arrOf t) i=a:=by
 have l:i < (arrOf t).size:=by rw[B.pm.size_eq];exact hi
 obtain⟨a,ha⟩:=U.1 _ ((Array.perm_iff_toList_perm.mp B.pm).mem_iff.mp (show (arrOf t)[i]∈(arrOf t).toList by simp))
 have e:=getElem?_pos (arrOf t) i l
 exact⟨_,_,a,e,ha,by unfold KK;rw[e];simp [ha]⟩
theorem Sb.ne (B:Sb k z t)(U:Ul κ z){i j:Nat}(hi:i < z.size)(hj:j < z.size)(n:i≠j):KK κ (arrOf t) i≠KK κ (arrOf t) j:=by
 intro e
 obtain⟨x,p,a,e1,a1,k1⟩:=B.key U hi
 obtain⟨y,q,b,e2,b1,k2⟩:=B.key U hj
 have nd:((arrOf t).toList.map fun p=>κ.keyOf p.1).Nodup:=((Array.perm_iff_toList_perm.mp B.pm).map _).nodup_iff.mpr U.2
 have g1:((arrOf t).toList.map fun p=>κ.keyOf p.1)[i]?=some (some a):=by rw[List.getElem?_map,Array.getElem?_toList,e1];exact congrArg some a1
 have g2:((arrOf t).toList.map fun p=>κ.keyOf p.1)[j]?=some (some b):=by rw[List.getElem?_map,Array.getElem?_toList,e2];exact congrArg some b1
 rw[k1,k2] at e
 rw[← e] at g2
 exact n ((List.getElem?_inj (List.getElem?_eq_some_iff.mp g1).1 nd).mp (g1.trans g2.symm))
theorem Sb.lt_or (B:Sb k z t)(U:Ul κ z){i j:Nat}(hi:i < z.size)(hj:j < z.size)(n:i≠j)(h:κ.blt (KK κ (arrOf t) i) (KK κ (arrOf t) j)=false):κ.klt (KK κ (arrOf t) j) (KK κ (arrOf t) i):=by
 cases e:κ.blt (KK κ (arrOf t) j) (KK κ (arrOf t) i) with
 | true=>exact e
 | false=>exact absurd (κ.total _ _ h e) (B.ne U hi hj n)
theorem zDp {xs:Array Keyed}{m:Nat}(h:Rise κ xs m):∀ {i j:Nat},i < j→j < m→κ.klt (KK κ xs i) (KK κ xs j):=by
 intro i j ij jm
 induction j with
 | zero=>omega
 | succ j ih =>
  rcases Nat.lt_or_eq_of_le (Nat.le_of_lt_succ ij) with l | e
  ·exact κ.trans _ _ _ (ih l (by omega)) (h j jm)
  ·subst e;exact h _ jm
section
variable {P:Program}{w:World}{A:Around}{E:Value→Shared→Prop}{s:Shared}(O:Lk P w A s κ k)(U:Ul κ z)
include O U
theorem lt_at {i j:Nat}{Q:Option Bool→SortSt→Prop}(B:Sb k z t)(hi:i < z.size)(hj:j < z.size)(q:Q (some (κ.blt (KK κ (arrOf t) i) (KK κ (arrOf t) j))) t):wpS (model P w) A E s (ltAt' i j) Q t:=by
 obtain⟨x,p,a,e1,a1,k1⟩:=B.key U hi
 obtain⟨y,r,b,e2,b1,k2⟩:=B.key U hj
 rw[k1,k2] at q
 rw[ltAt'_eq]
 refine wpS_bind (wpS_get (?_:wpS _ _ _ _ (elem' (arrOf t) i >>= fun x=>elem' (arrOf t) j >>= fun y=>lt' x y) Q t))
 rw[elem'_eq,elem'_eq,e1,e2]
 refine wpS_bind (wpS_pure (wpS_bind (wpS_pure ?_)))
 rw[lt'_eq]
 refine wpS_bind (wpS_get ?_)
 rw[B.kd]
 exact wpS_bind (wpS_lift (wpAny_attempt (O _ x y a b _ a1 b1 ⟨rfl,wpS_pure q⟩)))
theorem asc {a n:Nat}{Q:AscSt→SortSt→Prop}(B:Sb k z t)(nz:n≤z.size)(a1:1≤a)(an:a≤n)(r:Rise κ (arrOf t) a)
  (q:∀ m,a≤m→m≤n→Rise κ (arrOf t) m→(m=n∨κ.klt (KK κ (arrOf t) m) (KK κ (arrOf t) (m-1)))→Q (none,m) t):wpS (model P w) A E s (ascLoop a n) Q t:=by
 unfold ascLoop
 refine wpS_forRange (I:=fun x c t'=>t'=t∧c=(none,x)∧Rise κ (arrOf t) x) (fun x c t' h1 h2 h=>?_) (fun c t' h=>?_) ⟨rfl,rfl,r⟩
 ·obtain⟨rfl,rfl,r'⟩:=h
  refine wpS_bind (lt_at O U B (i:=x) (j:=x-1) (by omega) (by omega) ?_)
  dsimp only
  cases e:κ.blt (KK κ (arrOf t') x) (KK κ (arrOf t') (x-1)) with
  | true=>rw[if_pos rfl];exact wpS_pure (q x h1 (by omega) r' (.inr e))
  | false =>
   rw[if_neg (by decide)]
   refine wpS_pure ⟨rfl,rfl,fun i hi=>?_⟩
   rcases Nat.lt_or_ge (i+1) x with l | l
   ·exact r' i l
   ·have:x=i+1:=by omega
    subst this
    exact B.lt_or U (by omega) (by omega) (by omega) e
 ·obtain⟨rfl,rfl,r'⟩:=h
  have en:max a n=n:=by omega
  rw[en] at r' ⊢
  exact q n an (Nat.le_refl _) r' (.inl rfl)
theorem flip {m:Nat}{xs:Array Keyed}(mz:m≤xs.size)(f:Fall κ xs m):Rise κ (mirror xs 0 m ((m-0)/2)) m:=by
 intro i hi
 rw[KK_mirror mz,KK_mirror mz,if_pos (by omega),if_pos (by omega)]
 have:=f (0+m-1-(i+1)) (by omega)
 rwa [show 0+m-1-(i+1)+1=0+m-1-i by omega] at this
theorem desc {a n:Nat}{Q:DescSt→SortSt→Prop}(B:Sb k z t)(nz:n≤z.size)(a1:1≤a)(an:a≤n)(f:Fall κ (arrOf t) a)
  (q:∀ m,a≤m→m≤n→Fall κ (arrOf t) m→Q (none,m,0) t):wpS (model P w) A E s (descLoop a n) Q t:=by
 unfold descLoop
 refine wpS_forRange (I:=fun x c t'=>t'=t∧c=(none,x,0)∧Fall κ (arrOf t) x) (fun x c t' h1 h2 h=>?_) (fun c t' h=>?_) ⟨rfl,rfl,f⟩
 ·obtain⟨rfl,rfl,f'⟩:=h
  refine wpS_bind (lt_at O U B (i:=x) (j:=x-1) (by omega) (by omega) ?_)
  dsimp only
  cases e:κ.blt (KK κ (arrOf t') x) (KK κ (arrOf t') (x-1)) with
  | true =>
   rw[if_pos rfl,if_neg (by omega)]
   refine wpS_pure ⟨rfl,rfl,fun i hi=>?_⟩
   rcases Nat.lt_or_ge (i+1) x with l | l
   ·exact f' i l
   ·have:x=i+1:=by omega
    subst this
    exact e
  | false =>
   rw[if_neg (by decide)]
   refine wpS_bind (lt_at O U B (i:=x-1) (j:=x) (by omega) (by omega) ?_)
   have e2:κ.blt (KK κ (arrOf t') (x-1)) (KK κ (arrOf t') x)=true:=B.lt_or U (by omega) (by omega) (by omega) e
   rw[e2]
   dsimp only
   rw[if_pos rfl]
   exact wpS_pure (q x h1 (by omega) f')
 ·obtain⟨rfl,rfl,f'⟩:=h
  have en:max a n=n:=by omega
  rw[en] at f' ⊢
  exact q n an (Nat.le_refl _) f'
theorem tl3 {m n:Nat}{Q:Option Nat→SortSt→Prop}(B:Sb k z t)(nz:n≤z.size)(m1:1≤m)(mn:m≤n)(f:Fall κ (arrOf t) m)
  (q:∀ j t',Sb k z t'→1≤j→j≤n→Rise κ (arrOf t') j→Q (some j) t'):wpS (model P w) A E s (tail3 m n) Q t:=by
 unfold tail3
 have B':=B.put (mirror_perm (arrOf t) 0 m ((m-0)/2))
 refine wpS_bind (wpS_reverse (wpS_bind (asc O U B' nz m1 mn (flip O U (by rw[B.pm.size_eq];omega) f) fun j j1 jn r _=>wpS_pure (q j _ B' (by omega) jn r))))
theorem dpart {m n:Nat}{Q:Option Nat→SortSt→Prop}(B:Sb k z t)(nz:n≤z.size)(mn:m+1≤n)(f:Fall κ (arrOf t) (m+1))
  (q:∀ j t',Sb k z t'→1≤j→j≤n→Rise κ (arrOf t') j→Q (some j) t'):wpS (model P w) A E s (descPart m n) Q t:=by
 unfold descPart
 refine wpS_bind (wpS_lift (wpAny_rule ⟨rfl,wpS_bind (desc O U B nz (by omega) mn f fun j j1 jn f'=>?_)⟩))
 dsimp only
 rw[if_neg (by omega)]
 exact tl3 O U B nz (by omega) jn f' q
theorem crun {n:Nat}{Q:Option Nat→SortSt→Prop}(B:Sb k z t)(nz:n≤z.size)(n1:1≤n)
  (q:∀ j t',Sb k z t'→1≤j→j≤n→Rise κ (arrOf t') j→Q (some j) t'):wpS (model P w) A E s (countRun' 0 n) Q t:=by
 rw[countRun0_eq]
 refine wpS_bind (asc O U B nz (Nat.le_refl 1) n1 (fun i hi=>absurd hi (by omega)) fun m m1 mn r or=>?_)
 dsimp only
 by_cases e:m=n
 ·rw[if_pos (by simpa using e)]
  exact wpS_pure (q m t B m1 mn r)
 ·rw[if_neg (by simpa using e)]
  have dn:=or.resolve_left e
  by_cases g:m > 1
  ·rw[if_pos g]
   refine wpS_bind (lt_at O U B (i:=0) (j:=m-1) (by omega) (by omega) ?_)
   have up:κ.blt (KK κ (arrOf t) 0) (KK κ (arrOf t) (m-1))=true:=zDp r (by omega) (by omega)
   rw[up]
   dsimp only
   rw[if_pos rfl]
   exact wpS_pure (q m t B m1 mn r)
  ·rw[if_neg g]
   have:m=1:=by omega
   subst this
   refine dpart O U B nz (by omega) (fun i hi=>?_) q
   have:i=0:=by omega
   subst this
   exact dn
theorem bins {n ok:Nat}{Q:Bool→SortSt→Prop}(B:Sb k z t)(nz:n≤z.size)(o1:1≤ok)(on:ok≤n)(r:Rise κ (arrOf t) ok)
  (q:∀ t',Sb k z t'→Rise κ (arrOf t') n→Q true t'):wpS (model P w) A E s (binarySort' 0 n ok) Q t:=by
 rw[binarySort'_eq]
 refine wpS_bind (wpS_mono (wpS_forRange (I:=fun j c t'=>c=(none,())∧Sb k z t'∧Rise κ (arrOf t') j) (Q:=fun c t'=>c=(none,())∧Sb k z t'∧Rise κ (arrOf t') n) (fun j c t' h1 h2 h=>?_) (fun c t' h=>?_) ?_) ?_)
 ·obtain⟨rfl,B',r'⟩:=h
  simp only [Nat.zero_add]
  have jz:j < z.size:=by omega
  refine wpS_bind (wpS_mono (wpS_forRange (I:=fun x c t2=>t2=t'∧∃ l u,c=(none,l,u)∧l≤u∧u≤j∧u-l≤j-x∧(∀ i,i < l→κ.klt (KK κ (arrOf t') i) (KK κ (arrOf t') j))∧∀ i,u≤i→i < j→κ.klt (KK κ (arrOf t') j) (KK κ (arrOf t') i))
   (Q:=fun c t2=>t2=t'∧∃ l u,c=(none,l,u)∧l≤j∧(∀ i,i < l→κ.klt (KK κ (arrOf t') i) (KK κ (arrOf t') j))∧∀ i,l≤i→i < j→κ.klt (KK κ (arrOf t') j) (KK κ (arrOf t') i)) (fun x c t2 x1 x2 h=>?_) (fun c t2 h=>?_) ⟨rfl,0,j,rfl,by omega,by omega,by omega,fun i hi=>by omega,fun i a b=>by omega⟩) (fun c t2 h=>?_))
  ·obtain⟨rfl,l,u,rfl,lu,uj,sp,lo,hi⟩:=h
   dsimp only
   by_cases ge:l ≥ u
   ·rw[if_pos ge]
    have:l=u:=by omega
    subst this
    exact wpS_pure ⟨rfl,l,l,rfl,uj,lo,hi⟩
   ·rw[if_neg ge]
    refine wpS_bind (lt_at O U B' (i:=j) (j:=(l+u)/2) jz (by omega) ?_)
    dsimp only
    cases e:κ.blt (KK κ (arrOf t2) j) (KK κ (arrOf t2) ((l+u)/2)) with
    | true =>
     rw[if_pos rfl]
     refine wpS_pure ⟨rfl,l,(l+u)/2,rfl,by omega,by omega,by omega,lo,fun i a b=>?_⟩
     rcases Nat.lt_or_eq_of_le a with c | c
     ·exact κ.trans _ _ _ e (zDp r' c b)
     ·rw[← c];exact e
    | false =>
     rw[if_neg (by decide)]
     refine wpS_pure ⟨rfl,(l+u)/2+1,u,rfl,by omega,by omega,by omega,fun i a=>?_,hi⟩
     have up:=B'.lt_or U jz (by omega) (by omega) e
     rcases Nat.lt_or_eq_of_le (Nat.le_of_lt_succ a) with c | c
     ·exact κ.trans _ _ _ (zDp r' c (by omega)) up
     ·rw[c];exact up
  ·obtain⟨rfl,l,u,rfl,lu,uj,sp,lo,hi⟩:=h
   have:l=u:=by omega
   subst this
   exact⟨rfl,l,l,rfl,uj,lo,hi⟩
  ·obtain⟨rfl,l,u,rfl,lj,lo,hi⟩:=h
   refine wpS_bind (m:=moveDown' j l) (by
    rw[moveDown'_eq]
    refine wpS_modify (wpS_pure ⟨rfl,B'.put (bubble_perm _ _ _),fun i h=>?_⟩)
    have js:j < (arrOf t2).size:=by rw[B'.pm.size_eq];exact jz
    show κ.klt (KK κ (bubble (arrOf t2) j (j-l)) i) (KK κ (bubble (arrOf t2) j (j-l)) (i+1))
    rw[KK_bubble js (by omega),KK_bubble js (by omega),show j-(j-l)=l by omega]
    rcases Nat.lt_trichotomy (i+1) l with c | c | c
    ·rw[if_neg (by omega),if_neg (by omega),if_neg (by omega),if_neg (by omega)];exact r' i (by omega)
    ·rw[if_neg (by omega),if_neg (by omega),if_pos c];exact lo i (by omega)
    ·rcases Nat.lt_or_eq_of_le (Nat.le_of_lt_succ c) with d | d
     ·rw[if_neg (by omega),if_pos (by omega),if_neg (by omega),if_pos (by omega)]
      exact zDp r' (by omega) (by omega)
     ·rw[if_pos d.symm,if_neg (by omega),if_pos (by omega)]
      exact hi _ (by omega) (by omega))
 ·obtain⟨rfl,B',r'⟩:=h
  refine⟨rfl,B',?_⟩
  rwa [show max (max ok 1) n=n by omega] at r'
 ·exact⟨rfl,B,by rw[show max ok 1=ok by omega];exact r⟩
 ·rintro c t' ⟨rfl,B',r'⟩
  exact wpS_pure (q t' B' r')
theorem runs {Q:Unit→SortSt→Prop}(B:Sb k z t)(z2:2≤z.size)(z64:z.size < 64)(q:∀ t',(arrOf t').Perm z→failedOf t'=none→Rise κ (arrOf t') z.size→Q () t'):wpS (model P w) A E s sortRuns' Q t:=by
 rw[sortRuns'_eq]
 refine wpS_bind (wpS_get ?_)
 have mr:minRun' z.size z.size 0=z.size:=by
  obtain⟨f,hf⟩:∃ f,z.size=f+1:=⟨z.size-1,by omega⟩
  have:minRun' (f+1) z.size 0=z.size+0:=by rw[minRun'_succ,if_pos z64]
  rw[← hf] at this;exact this
 dsimp only
 rw[B.pm.size_eq,mr]
 refine wpS_bind (wpS_mono (wpS_forRange (I:=fun x c t'=>(x=0∧c=(none,0)∧Sb k z t')∨(1≤x∧c=(none,z.size)∧(arrOf t').Perm z∧failedOf t'=none∧pendingOf t'=#[(0,z.size,0)]∧Rise κ (arrOf t') z.size))
  (Q:=fun c t'=>c=(none,z.size)∧(arrOf t').Perm z∧failedOf t'=none∧pendingOf t'=#[(0,z.size,0)]∧Rise κ (arrOf t') z.size) (fun x c t' _ xz h=>?_) (fun c t' h=>?_) (.inl ⟨rfl,rfl,B⟩)) ?_)
 ·rcases h with ⟨rfl,rfl,B'⟩ | ⟨x1,rfl,rest⟩
  ·dsimp only
   rw[if_neg (by omega)]
   simp only [Nat.sub_zero,Nat.min_self,Nat.zero_add]
   refine wpS_bind (crun O U B' (Nat.le_refl _) (by omega) fun m t2 B2 m1 mz r2=>?_)
   dsimp only
   by_cases lt:m < z.size
   ·rw[if_pos lt]
    refine wpS_bind (wpS_lift (wpAny_rule ⟨rfl,wpS_bind (bins O U B2 (Nat.le_refl _) m1 mz r2 fun t3 B3 r3=>?_)⟩))
    simp only [Bool.not_true,Bool.false_eq_true,if_false]
    refine wpS_bind (wpS_get ?_)
    rw[show (pendingOf t3).back?=none by rw[B3.pd];rfl]
    dsimp only
    exact wpS_bind (wpS_modify (wpS_pure (.inr ⟨by omega,rfl,B3.pm,B3.fl,(by show (pendingOf t3).push _=_;rw[B3.pd];rfl),r3⟩)))
   ·rw[if_neg lt]
    have:m=z.size:=by omega
    subst this
    refine wpS_bind (wpS_get ?_)
    rw[show (pendingOf t2).back?=none by rw[B2.pd];rfl]
    dsimp only
    exact wpS_bind (wpS_modify (wpS_pure (.inr ⟨by omega,rfl,B2.pm,B2.fl,(by show (pendingOf t2).push _=_;rw[B2.pd];rfl),r2⟩)))
  ·dsimp only
   rw[if_pos (Nat.le_refl _)]
   exact wpS_pure ⟨rfl,rest⟩
 ·rcases h with ⟨h,_⟩ | ⟨_,rfl,rest⟩
  ·omega
  ·exact⟨rfl,rest⟩
 ·rintro c t' ⟨rfl,p1,p2,p3,p4⟩
  dsimp only
  refine wpS_bind (wpS_mono (wpS_forRange (I:=fun _ c t2=>t2=t'∧c=(none,())) (Q:=fun c t2=>t2=t'∧c=(none,())) (fun x c t2 _ _ h=>?_) (fun _ _ h=>h) ⟨rfl,rfl⟩) ?_)
  ·obtain⟨rfl,rfl⟩:=h
   refine wpS_bind (wpS_get ?_)
   rw[if_pos (by rw[p3];exact Nat.le_refl 1)]
   exact wpS_pure ⟨rfl,rfl⟩
  ·rintro c t2 ⟨rfl,rfl⟩
   exact wpS_pure (q _ p1 p2 p4)
end
end
section
variable {κ:KeyKind}{k:SortKind}{P:Program}{w:World}{A:Around}{E:Value→Shared→Prop}{s:Shared}
def Sees (P:Program)(w:World)(A:Around)(s:Shared)(κ:KeyKind)(k:SortKind)(vs:List Value)(ex:Addr→Prop):Prop :=
 ∀ s':Shared,(∀ b o,¬ ex b→s.heap.get? b=some o→s'.heap.get? b=some o)→(2≤vs.length→∀ (Q:SortKind→Shared→Prop)(E:Value→Shared→Prop),Q k s'→wpAny (model P w) A (keyKind' vs.toArray) Q E s')∧Lk P w A s' κ k
theorem sort_list {a:Addr}{vs:List Value}{n:Nat}{R:PySem.Fin→Shared→Prop}(ho:s.heap.get? a=some (seqObj "list" vs.toArray n))(h64:vs.length < 64)(hs:Sees P w A s κ k vs fun b=>b=a)(U:Ul κ (pairsOf vs))
  (q:∀ out:Array Keyed,out.Perm (pairsOf vs)→Rise κ out (pairsOf vs).size→R (.done (.ret .none)) { s with heap:=sortedHeap s.heap a vs (out.map (·.2)) }):wpAny (model P w) A (Builtin.«list.sort» ⟨[.ref a],[]⟩) R E s:=by
 rw[list_sort_plain]
 have az:a < s.heap.objs.size:=Heap.lt_size ho
 refine wpAny_bind (listItems_at ho rfl (wpAny_bind (listUpdate_at ho rfl ?_)))
 obtain⟨c,hc⟩:∃ c,(s.heap.update a (Obj.mapSeq fun _=>#[])).get? a=some (seqObj "list" #[] c):=⟨_,get?_update_seq ho (fun _=>#[])⟩
 refine wpAny_bind (seqEpoch_at hc rfl (wpAny_bind (wpAny_newTuple (wpAny_bind (wpAny_newList (wpAny_holding ?_))))))
 have hd:(((s.heap.update a (Obj.mapSeq fun _=>#[])).push (seqObj "tuple" vs.toArray 0)).push (seqObj "list" #[] 0)).get? a=some (seqObj "list" #[] c):=by
  rw[Heap.get?_push_ne,Heap.get?_push_ne]
  ·exact hc
  ·rw[Heap.size_update];exact Nat.ne_of_lt az
  ·rw[size_push',Heap.size_update];exact Nat.ne_of_lt (Nat.lt_succ_of_lt az)
 have kp:∀ b o,¬ b=a→s.heap.get? b=some o→(((s.heap.update a (Obj.mapSeq fun _=>#[])).push (seqObj "tuple" vs.toArray 0)).push (seqObj "list" #[] 0)).get? b=some o:=fun b o ne e =>
  Heap.get?_push_of_some _ (Heap.get?_push_of_some _ ((Heap.get?_update_other _ _ (Ne.symm ne)).trans e))
 show wpAny (model P w) A _ R E { s with heap:=((s.heap.update a (Obj.mapSeq fun _=>#[])).push (seqObj "tuple" vs.toArray 0)).push (seqObj "list" #[] 0) }
 obtain⟨hk,hO⟩:=hs { s with heap:=((s.heap.update a (Obj.mapSeq fun _=>#[])).push (seqObj "tuple" vs.toArray 0)).push (seqObj "list" #[] 0) } kp
 dsimp only
 have vz:vs.toArray.size=vs.length:=by simp
 by_cases lt:vs.length < 2
 ·rw[if_pos (by omega),if_pos (by omega)]
  refine wpAny_bind (wpAny_pure ?_)
  rw[StateT.run_pure]
  refine wpAny_bind (wpAny_pure (wpAny_bind (seqEpoch_at hd rfl (wpAny_bind (listUpdate_at hd rfl ?_ (hsz2:=by rw[Array.size_map];show (pairsOf vs).size≤_;rw[pairsOf_size,sizeLine_eq];omega))))))
  simp only [bne_self_eq_false,Bool.false_eq_true,if_false]
  exact wpAny_pure (q (vs.toArray.zip vs.toArray) (Array.Perm.refl _) fun i hi=>by rw[pairsOf_size] at hi;omega)
 ·rw[if_neg (by omega),if_neg (by omega)]
  refine wpAny_bind (hk (by omega) _ _ (wpAny_bind ?_))
  refine wpAny_mono (runs (z:=pairsOf vs) hO U (t:=SortSt.mk' k (vs.toArray.zip vs.toArray) #[] 7 none) (Q:=fun _ t'=>(arrOf t').Perm (pairsOf vs)∧failedOf t'=none∧Rise κ (arrOf t') (pairsOf vs).size)
   ⟨Array.Perm.refl _,rfl,rfl,rfl⟩ (by rw[pairsOf_size];omega) (by rw[pairsOf_size];exact h64) fun t' a1 a2 a3=>⟨a1,a2,a3⟩) ?_ fun _ _ e=>e
  rintro⟨⟨⟩,t'⟩ s' ⟨rfl,p,f,r⟩
  dsimp only
  refine wpAny_bind (seqEpoch_at hd rfl (wpAny_bind (listUpdate_at hd rfl ?_ (hsz2:=by rw[Array.size_map,p.size_eq,pairsOf_size,sizeLine_eq];omega))))
  rw[f]
  simp only [bne_self_eq_false,Bool.false_eq_true,if_false]
  exact wpAny_pure (q _ p r)
theorem sorted_of {l:Addr}{vs:List Value}{Q:Value→Shared→Prop}(hl:s.heap.IsList l vs.toArray)(h64:vs.length < 64)(hs:Sees P w A.in1.in1 s κ k vs fun b=>s.heap.objs.size≤b)(U:Ul κ (pairsOf vs))
  (q:∀ out:Array Keyed,out.Perm (pairsOf vs)→Rise κ out (pairsOf vs).size→Q (.ref (s.heap.objs.size+1)) { s with heap:=sortedAll s.heap vs (out.map (·.2)) }):wpAny (model P w) A (call (.builtin "sorted") [.ref l]) Q E s:=by
 refine Calls.call_function_entry kind_sorted plain_sorted entry_sorted (args_sorted1 _) ?_
 unfold Builtin.«sorted»
 refine wpAny_bind (m:=checkCount "sorted" 1 1 _) (wpAny_pure (wpAny_bind (collect_list hl (wpAny_bind (wpAny_newList ?_)))))
 have z1:((s.heap.push (seqObj "list" #[] 0)).update s.heap.objs.size (Obj.mapSeq (· ++ vs.toArray))).objs.size=s.heap.objs.size+1:=(Heap.size_update ..).trans (size_push' ..)
 have hL:(((s.heap.push (seqObj "list" #[] 0)).update s.heap.objs.size (Obj.mapSeq (· ++ vs.toArray))).push (seqObj "list" vs.toArray 0)).get? (s.heap.objs.size+1)=some (seqObj "list" vs.toArray 0):=by
  rw[← z1];exact Heap.get?_push_size _ rfl
 have kp:∀ b o,¬ s.heap.objs.size≤b→s.heap.get? b=some o→(((s.heap.push (seqObj "list" #[] 0)).update s.heap.objs.size (Obj.mapSeq (· ++ vs.toArray))).push (seqObj "list" vs.toArray 0)).get? b=some o:=fun b o ne e =>
  Heap.get?_push_of_some _ ((Heap.get?_update_other _ _ (fun z=>ne (Nat.le_of_eq z))).trans (Heap.get?_push_of_some _ e))
 show wpAny _ _ _ _ _ { s with heap:=((s.heap.push (seqObj "list" #[] 0)).update s.heap.objs.size (Obj.mapSeq (· ++ vs.toArray))).push (seqObj "list" vs.toArray 0) }
 rw[z1]
 refine wpAny_bind (wpAny_holding (wpAny_call_entry slot_list_sort ⟨_,hL,rfl⟩ entry_list_sort (sort_list hL h64 (fun s' k'=>hs s' fun b o ne e=>k' b o (fun z=>ne (by rw[z];exact Nat.le_succ _)) (kp b o ne e)) U fun out a1 a2=>⟨_,rfl,?_⟩) (args_list_sort _)))
 exact wpAny_pure ⟨_,rfl,q out a1 a2⟩
end
end Sv
namespace Sv
open PySem PyProof.Rows
section
variable {P:Program}{w:World}{A:Around}{E:Value→Shared→Prop}{s:Shared}
theorem int_lt (hu:A.units < cLine){a b:Int}{t u:Tok}{Q:Value→Shared→Prop}(q:Q (.bool (decide (a < b))) s):wpAny (model P w) A (richCompare .Lt (.int a t) (.int b u)) Q E s :=
 wpAny_richCompare_same_room (op:=.Lt) (typeIs_int s a t) (typeIs_int s b u) slot_int_lt (call_int_lt ⟨(fun e=>nomatch e),q⟩) hu
theorem tlt_tree (hu:A.units < cLine){x y:List Int}{a b:Addr}{R:PySem.Fin→Shared→Prop}(hx:IsTupleKey (intKind P w) s.heap x a)(hy:IsTupleKey (intKind P w) s.heap y b)(q:R (.done (.ret (.bool (decide (x < y))))) s) :
  wpAny (model P w) A (Builtin.«tuple.__lt__» ⟨[.ref a,.ref b],[]⟩) R E s:=by
 have tB:=hy.typeIs
 obtain⟨o,xs,n,p,_,r,ix⟩:=hx
 obtain⟨o',ys,n',p',_,r',iy⟩:=hy
 refine wpAny_bind (m:=isInstance (.ref b) (.type "tuple")) (wpAny_isInstance tB isSubtype_tuple_tuple ?_)
 simp only [Bool.not_true,Bool.false_eq_true,if_false]
 refine wpAny_bind (wpAny_tupleItemsOf p r (wpAny_bind (wpAny_tupleItemsOf p' r' (wpAny_bind ?_))))
 refine wpAny_forIn_list _ (fun rest c s'=>c.1=none∧s'=s∧∃ x' y' us vs,rest=List.zip us vs∧ItemsAre (intKind P w) x' us∧ItemsAre (intKind P w) y' vs∧decide (x' < y')=decide (x < y)∧decide (us.length < vs.length)=decide (xs.size < ys.size)) _ ?_ ?_ _ _ ⟨rfl,rfl,x,y,xs.toList,ys.toList,rfl,ix,iy,rfl,by simp⟩
 ·rintro⟨g,h⟩ rest c s' ⟨hc,rfl,x',y',us,vs,er,ax,ay,ed,el⟩
  cases ax with
  | nil=>simp at er
  | @cons k v x2 us h1 ax =>
   cases ay with
   | nil=>simp at er
   | @cons k' v' y2 vs h2 ay =>
    rw[List.zip_cons_cons] at er
    injection er with e1 e2
    injection e1 with e1 e3
    subst e1 e2 e3
    obtain⟨t1,rfl⟩:=Value.isInt_shape h1
    obtain⟨t2,rfl⟩:=Value.isInt_shape h2
    refine wpAny_bind ((intKind P w).eqBool (a:=k) (b:=k') h1 h2 ?_)
    by_cases ek:k=k'
    ·subst ek
     simp only [decide_true,Bool.not_true,Bool.false_eq_true,if_false]
     refine wpAny_pure ⟨rfl,rfl,x2,y2,us,vs,rfl,ax,ay,?_,?_⟩
     ·rw[← ed,decide_eq_decide,List.cons_lt_cons_iff];simp
     ·rw[← el,decide_eq_decide];simp
    ·simp only [ek,decide_false,Bool.not_false,if_true]
     have e:decide (k < k')=decide (x < y):=by rw[← ed,decide_eq_decide,List.cons_lt_cons_iff];simp [ek]
     exact wpAny_bind (wpAny_rule (wpAny_bind (int_lt hu (wpAny_bind (wpAny_pure (wpAny_pure (wpAny_pure (by rw[e];exact q))))))))
 ·rintro⟨c1,c2⟩ s' ⟨hc,rfl,x',y',us,vs,er,ax,ay,ed,el⟩
  dsimp only at hc
  subst hc
  refine wpAny_pure ?_
  unfold Builtin.Tuple.tupleCompareSizes
  rw[← el]
  have:decide (us.length < vs.length)=decide (x < y):=by
   rw[← ed,decide_eq_decide]
   cases ax with
   | nil=>cases ay with
    | nil=>simp
    | cons _ _=>simp
   | cons _ _=>cases ay with
    | nil=>simp
    | cons _ _=>simp at er
  rw[this];exact q
theorem tlt (hu:A.units+1 < cLine){x y:List Int}{a b:Addr}{Q:Value→Shared→Prop}(hx:IsTupleKey (intKind P w) s.heap x a)(hy:IsTupleKey (intKind P w) s.heap y b)(q:Q (.bool (decide (x < y))) s) :
  wpAny (model P w) A (richCompare .Lt (.ref a) (.ref b)) Q E s :=
 wpAny_richCompare_same_room (op:=.Lt) hx.typeIs hy.typeIs F.slot_tuple_lt (wpAny_call_entry F.slot_tuple_lt hx.typeIs F.entry_tuple_lt (tlt_tree (show A.in1.units < cLine from hu) hx hy ⟨_,rfl,(fun e=>nomatch e),q⟩) (F.args_tuple_lt_2 _ _)) (by omega)
end
section
variable (H:L2.Hp)(m c:Int)
open Classical in
noncomputable def wOf:Value→Option (List Int)
 | .ref a=>if h:∃ ws,L2.vU H a m ws c then some (Classical.choose h) else none
 | _=>none
open Classical in
theorem wOf_eq {a:Addr}{ws:List Int}(v:L2.vU H a m ws c):wOf H m c (.ref a)=some ws:=by
 have h:∃ ws,L2.vU H a m ws c:=⟨ws,v⟩
 show (if h:∃ ws,L2.vU H a m ws c then some (Classical.choose h) else none)=some ws
 rw[dif_pos h]
 obtain⟨u,h1,h2⟩:=v
 obtain⟨u',g1,g2⟩:=Classical.choose_spec h
 rw[h1] at g1
 cases g1
 rw[h2] at g2
 injection g2 with g2
 injection g2 with g2
 congr 1
 have:∀ {x y:List Int},x.map L2.V.int=y.map L2.V.int→x=y:=by
  intro x
  induction x with
  | nil=>intro y h;cases y with
   | nil=>rfl
   | cons _ _=>simp at h
  | cons a x ih=>intro y h;cases y with
   | nil=>simp at h
   | cons b y =>
    rw[List.map_cons,List.map_cons] at h
    injection h with h1 h2
    injection h1 with h1
    rw[h1,ih h2]
 exact (this g2).symm
@[reducible] noncomputable def vKd:KeyKind where
 α:=List Int
 blt a b:=decide (a < b)
 irrefl a:=decide_eq_false (List.lt_irrefl a)
 trans a b d h1 h2:=decide_eq_true (List.lt_trans (of_decide_eq_true h1) (of_decide_eq_true h2))
 negTrans a b d h:=by
  have h:=of_decide_eq_true h
  by_cases e:a < b
  ·exact .inl (decide_eq_true e)
  ·exact .inr (decide_eq_true (List.lt_of_le_of_lt (List.not_lt.mp e) h))
 total a b h1 h2:=List.le_antisymm (List.not_lt.mp (of_decide_eq_false h2)) (List.not_lt.mp (of_decide_eq_false h1))
 keyOf:=wOf H m c
 dflt:=[]
theorem wOf_inv {x:Value}{ws:List Int}(h:wOf H m c x=some ws):∃ a,x=.ref a∧L2.vU H a m ws c:=by
 unfold wOf at h
 split at h
 ·rename_i a
  split at h
  ·rename_i e
   injection h with h
   exact⟨a,rfl,by rw[← h];exact Classical.choose_spec e⟩
  ·cases h
 ·cases h
end
theorem keyLt_tup (f:Bool)(x y:Value):keyLt' (tuples' f) x y=(do
  let xs ← Builtin.List.listItems x
  let ys ← Builtin.List.listItems y
  for ((p,q),i) in (xs.toList.zip ys.toList).zipIdx do
   if !(← eqBool p q) then return ← oneLt' (f && i == 0) p q
  return decide (xs.size < ys.size)):=rfl
section
variable {P:Program}{w:World}{A:Around}{E:Value→Shared→Prop}{s:Shared}{H:L2.Hp}{m c:Int}
theorem val_lk (hu:A.units+1 < cLine)(hk:∀ a ws,L2.vU H a m ws c→L2.wO P w s.heap (m,ws,c) a):Lk P w A s (vKd H m c) (tuples' true):=by
 intro E x y a b Q hx hy q
 obtain⟨ax,rfl,vx⟩:=wOf_inv H m c hx
 obtain⟨ay,rfl,vy⟩:=wOf_inv H m c hy
 obtain⟨o,u,t,t',n,p,_,r,z⟩:=hk _ _ vx
 obtain⟨o',v,r0,r1,n',p',_,r',z'⟩:=hk _ _ vy
 rw[keyLt_tup]
 refine wpAny_bind (listItems_at p r (wpAny_bind (listItems_at p' r' ?_)))
 refine wpAny_bind ?_
 dsimp only at z z'
 simp only [List.zip_cons_cons,List.zip_nil_right,List.zipIdx_cons,List.zipIdx_nil,List.forIn_cons,List.forIn_nil]
 refine wpAny_bind (wpAny_bind ((intKind P w).eqBool (a:=m) (b:=m) (by simp [intKind,Value.isInt]) (by simp [intKind,Value.isInt]) ?_))
 simp only [decide_true,Bool.not_true,Bool.false_eq_true,if_false]
 refine wpAny_pure (wpAny_bind (wpAny_bind (wpAny_eqBool_tuple (by omega) z z' ?_)))
 by_cases e:a=b
 ·subst e
  simp only [decide_true,Bool.not_true,Bool.false_eq_true,if_false]
  refine wpAny_pure (wpAny_bind (wpAny_bind ((intKind P w).eqBool (a:=c) (b:=c) (by simp [intKind,Value.isInt]) (by simp [intKind,Value.isInt]) ?_)))
  simp only [decide_true,Bool.not_true,Bool.false_eq_true,if_false]
  refine wpAny_pure (wpAny_pure (wpAny_pure ?_))
  have:(vKd H m c).blt a a=false:=(vKd H m c).irrefl a
  rw[this] at q
  exact q
 ·simp only [e,decide_false,Bool.not_false,if_true]
  rw[show (true && (0+1 == 0))=false from rfl,oneLt'_eq]
  simp only [Bool.false_eq_true,if_false]
  exact wpAny_bind (wpAny_bind (tlt hu z z' (wpAny_truthy_bool (wpAny_pure (wpAny_pure (wpAny_pure q))))))
theorem firsts (hk:∀ a ws,L2.vU H a m ws c→L2.wO P w s.heap (m,ws,c) a):∀ {as:List Addr},(∀ a∈as,∃ ws,L2.vU H a m ws c)→∀ {Q:List (Option Value)→Shared→Prop},(∀ ts:List Tok,ts.length=as.length→Q (ts.map fun t=>some (.int m t)) s)→wpAny (model P w) A ((as.map Value.ref).mapM firstOfTuple') Q E s
 | [],_,Q,q=>by rw[List.map_nil,List.mapM_nil];exact wpAny_pure (q [] rfl)
 | a::as,h,Q,q=>by
  obtain⟨ws,v⟩:=h a List.mem_cons_self
  obtain⟨o,u,t,t',n,p,cl,r,z⟩:=hk _ _ v
  rw[List.map_cons,List.mapM_cons]
  refine wpAny_bind (m:=typeOf (.ref a) >>= fun ty=>if (ty != .type "tuple")=true then pure none else Builtin.List.listItems (.ref a) >>= fun xs=>pure xs[0]?) (wpAny_bind (wpAny_typeOf (T:="tuple") ⟨o,p,cl⟩ ?_))
  rw[if_neg (by decide)]
  refine wpAny_bind (listItems_at p r (wpAny_pure (wpAny_bind (firsts hk (fun a ha=>h a (List.mem_cons_of_mem _ ha)) fun ts hl=>wpAny_pure ?_))))
  exact q (t::ts) (by simp [hl])
theorem val_kind (hk:∀ a ws,L2.vU H a m ws c→L2.wO P w s.heap (m,ws,c) a){as:List Addr}(h:∀ a∈as,∃ ws,L2.vU H a m ws c)(ne:as≠[]){Q:SortKind→Shared→Prop}(q:Q (tuples' true) s):wpAny (model P w) A (keyKind' (as.map Value.ref).toArray) Q E s:=by
 rw[keyKind'_eq,List.mapM_toArray]
 refine wpAny_bind (wpAny_map (firsts hk h fun ts hl=>?_))
 rw[if_pos (by simp)]
 refine wpAny_bind (wpAny_rule (wpAny_bind ?_))
 have ef:Array.filterMap id (List.map (fun t=>some (Value.int m t)) ts).toArray=(ts.map (Value.int m)).toArray:=by
  simp [List.filterMap_map,Function.comp_def]
 have tn:ts≠[]:=fun e=>ne (List.length_eq_zero_iff.mp (by rw[← hl,e];rfl))
 have ia:IntsAre (ts.map (Value.int m)) (ts.map fun _=>m):=by
  clear ef hl tn
  induction ts with
  | nil=>exact .nil
  | cons t ts ih=>exact .cons m t ih
 rw[ef,oneTypeOnly'_eq,List.mapM_toArray,mapM_typeOf_ints ia]
 simp only [map_pure,pure_bind]
 obtain⟨t0,ts',rfl⟩:=List.exists_cons_of_ne_nil tn
 have hall:((List.map (fun _=>Value.type "int") (List.map (Value.int m) (t0::ts'))).toArray.all fun x=>x == Value.type "int")=true:=by
  simp only [List.all_toArray,List.all_map,List.all_eq_true]
  intro _ _;rfl
 have h0:(List.map (fun _=>Value.type "int") (List.map (Value.int m) (t0::ts'))).toArray[0]?=some (Value.type "int"):=by simp
 rw[h0]
 simp only [hall,if_true]
 exact wpAny_pure (wpAny_pure q)
end
end Sv
namespace L2
open PySem PySem.Spec PyProof.Rows PySem.SeqAt
theorem wO.mono {P:Program}{w:World}{h h':Heap}{k:VKy}{a:Addr}(v:wO P w h k a)(e:∀ b o,h.get? b=some o→h'.get? b=some o):wO P w h' k a:=by
 obtain⟨o,u,t,t',n,p,q,r,o',i,n',p',z⟩:=v
 exact⟨o,u,t,t',n,e _ _ p,q,r,o',i,n',e _ _ p',z⟩
theorem refs_eq:∀ {as:List Addr}{us:List Value},Vals (as.map V.ref) us→us=as.map Value.ref
 | [],_,r=>by rw[List.map_nil] at r;cases r;rfl
 | a::as,_,r=>by
  rw[List.map_cons] at r
  cases r with
  | cons h t=>rw[refs_eq t,show _=Value.ref a from h];rfl
theorem vals_refs:∀ as:List Addr,Vals (as.map V.ref) (as.map Value.ref)
 | []=>.nil
 | _::as=>.cons rfl (vals_refs as)
theorem zCx {X:Cx}(hu:X.A.units+10 < cLine):j4 X (.builtin "sorted") (fun xs H Q=>∃ (a:Addr)(as:List Addr)(m c:Int)(L:List (List Int)),xs=[.ref a]∧SqL X.K H a (as.map V.ref)∧Paired (fun d W=>vU H d m W c) as L∧L.Nodup∧as.length < 64 ∧
  ∀ b (bs:List Addr)(L':List (List Int)),H b=none→Paired (fun d W=>vU H d m W c) bs L'→L'.Perm L→L'.Pairwise (· < ·)→Q (.ref b) (upd H b (.lst (bs.map V.ref)))):=by
 intro pins s σ H xs us Q I r h
 obtain⟨a,as,m,c,L,rfl,hq,pr,nd,l64,q⟩:=h
 obtain⟨u,rfl,ru⟩:=vals1 r
 cases ru
 obtain⟨its,rv,pl,hz⟩:=I.list hq
 have ei:=refs_eq rv
 subst ei
 have all:∀ d∈as,∃ W,vU H d m W c:=fun d hd=>by
  obtain⟨i,hi⟩:=List.mem_iff_getElem?.mp hd
  obtain⟨W,_,v⟩:=w5 pr hi
  exact⟨W,v⟩
 have eL:(as.map Value.ref).map (Sv.wOf H m c)=L.map some:=by
  clear nd l64 q hq rv pl hz all r
  induction pr with
  | nil=>rfl
  | @cons d W as L h t ih=>rw[List.map_cons,List.map_cons,List.map_cons,ih,Sv.wOf_eq H m c h]
 have ez:(pairsOf (as.map Value.ref)).toList.map (fun p=>(Sv.vKd H m c).keyOf p.1)=L.map some:=by
  rw[pairsOf_toList,← eL]
  show _=(as.map Value.ref).map (Sv.wOf H m c)
  generalize as.map Value.ref=l
  clear eL
  induction l with
  | nil=>rfl
  | cons x l ih=>rw[List.zip_cons_cons,List.map_cons,ih,List.map_cons]
 have U:Sv.Ul (Sv.vKd H m c) (pairsOf (as.map Value.ref)):=by
  refine⟨fun p hp=>?_,?_⟩
  ·have hm:(Sv.vKd H m c).keyOf p.1∈L.map some:=by rw[← ez];exact List.mem_map.mpr ⟨p,hp,rfl⟩
   obtain⟨W,_,e⟩:=List.mem_map.mp hm
   exact⟨W,e.symm⟩
  ·rw[ez,List.nodup_iff_pairwise_ne,List.pairwise_map]
   exact (List.nodup_iff_pairwise_ne.mp nd).imp fun h e=>h (by injection e)
 refine Sv.sorted_of (k:=PyProof.Rows.tuples' true) pl.isList (by rw[List.length_map];exact l64) (fun s' kp=>?_) U fun out pm ri=>?_
 ·have hk:∀ d W,vU H d m W c→wO X.prog X.w s'.heap (m,W,c) d:=fun d W v=>(vl_key I.hok v).mono fun b o e=>kp b o (Nat.not_le.mpr (Heap.lt_size e)) e
  refine⟨fun h2 Q' E' q'=>Sv.val_kind hk all (fun e=>by rw[e] at h2;simp at h2) q',Sv.val_lk (show X.A.in1.in1.units+1 < cLine from by show X.A.units+1+1+1 < cLine;omega) hk⟩
 ·have lp:out.toList.Perm ((as.map Value.ref).zip (as.map Value.ref)):=by rw[← pairsOf_toList];exact Array.perm_iff_toList_perm.mp pm
  have mem:∀ p∈out.toList,∃ d W,p=(.ref d,.ref d)∧vU H d m W c∧Sv.wOf H m c p.1=some W:=fun p hp=>by
   obtain⟨e1,e2⟩:=mem_zip_self (lp.mem_iff.mp hp)
   obtain⟨d,hd,e3⟩:=List.mem_map.mp e2
   obtain⟨W,v⟩:=all d hd
   refine⟨d,W,Prod.ext e3.symm (by rw[← e1,← e3]),v,by rw[← e3];exact Sv.wOf_eq H m c v⟩
  obtain⟨bs,L',e1,e2,e3⟩:∃ (bs:List Addr)(L':List (List Int)),out.toList.map (·.2)=bs.map Value.ref∧Paired (fun d W=>vU H d m W c) bs L'∧out.toList.map (fun p=>Sv.wOf H m c p.1)=L'.map some:=by
   generalize out.toList=l at mem
   clear lp
   induction l with
   | nil=>exact⟨[],[],rfl,.nil,rfl⟩
   | cons p l ih =>
    obtain⟨d,W,e,v,k⟩:=mem p List.mem_cons_self
    obtain⟨bs,L',a1,a2,a3⟩:=ih fun x hx=>mem x (List.mem_cons_of_mem _ hx)
    exact⟨d::bs,W::L',by rw[List.map_cons,a1,e];rfl,.cons v a2,by rw[List.map_cons,a3,k];rfl⟩
  obtain⟨n,e⟩:=sortedAll_at s.heap (as.map Value.ref) (out.map (·.2))
  have pL:L'.Perm L:=by
   have p1:=(Array.perm_iff_toList_perm.mp pm).map fun p=>(Sv.vKd H m c).keyOf p.1
   rw[ez] at p1
   have p2:(L'.map some).Perm (L.map some):=by rw[← e3];exact p1
   have p3:=p2.map (fun o:Option (List Int)=>o.getD [])
   rw[List.map_map,List.map_map] at p3
   simpa [Function.comp_def] using p3
  have lb:bs.length=as.length:=by
   have:=congrArg List.length e1
   rw[List.length_map,List.length_map,lp.length_eq] at this
   simpa using this.symm
  have ok:vY X.prog X.w (upd H (s.heap.objs.size+1) (.lst (bs.map V.ref))) (sortedAll s.heap (as.map Value.ref) (out.map (·.2))) (s.heap.objs.size+1) (.lst (bs.map V.ref)):=by
   refine⟨by rw[List.length_map,lb,← List.length_map (f:=V.ref) (as:=as)];exact hz,bs.map Value.ref,n,vals_refs bs,?_⟩
   rw[e,← e1]
   congr 1
   rw[← Array.toList_map]
  refine⟨.ref (s.heap.objs.size+1),_,I.laid (t':=s.toks) (fun b o q=>sortedAll_old q) (Nat.le_succ _) ok,rfl,q _ bs L' (I.hok.fresh (Nat.le_succ _)) e2 pL ?_⟩
  rw[List.pairwise_iff_getElem]
  intro i j hi hj ij
  have ln:L'.length=out.size:=by
   have:=congrArg List.length e3
   rw[List.length_map,List.length_map] at this
   simpa using this.symm
  have kk:∀ i (h:i < L'.length),KK (Sv.vKd H m c) out i=L'[i]:=fun i h=>by
   have g:=congrArg (·[i]?) e3
   simp only [List.getElem?_map,List.getElem?_eq_getElem h] at g
   unfold KK
   rw[← Array.getElem?_toList]
   cases ep:out.toList[i]? with
   | none=>rw[ep] at g;simp at g
   | some p =>
    rw[ep] at g
    simp only [Option.map_some,Option.some.injEq] at g
    show ((Sv.wOf H m c p.1).getD [])=_
    rw[g];rfl
  have:=Sv.zDp ri ij (by rw[← pm.size_eq,← ln];exact hj)
  rw[kk i hi,kk j hj] at this
  exact of_decide_eq_true this
end L2
namespace L2
open PySem PySem.Spec PyProof.Rows PySem.SeqAt
theorem items_any {P P':Program}{w w':World}:∀ {ks:List Int}{us:List Value},ItemsAre (intKind P w) ks us→ItemsAre (intKind P' w') ks us
 | _,_,.nil=>.nil
 | _,_,.cons h t=>.cons h (items_any t)
theorem wO.any {P P':Program}{w w':World}{h:Heap}{k:VKy}{a:Addr}(v:wO P w h k a):wO P' w' h k a:=by
 obtain⟨o,u,t,t',n,p,q,r,o',i,n',p',q',r',z⟩:=v
 exact⟨o,u,t,t',n,p,q,r,o',i,n',p',q',r',items_any z⟩
theorem op_notInV {X:Cx}(hu:X.A.units+10 < cLine):OpR X (compareOp .NotIn) (fun x y H Q=>∃ (a p:Addr)(as:List Addr)(m c:Int)(W:List Int)(L:List (List Int)),x=.ref a∧y=.ref p∧SqL X.K H p (as.map V.ref)∧Paired (fun d W=>vU H d m W c) as L∧vU H a m W c∧Q (.bl (!decide (W∈L))) H):=by
 intro pins s σ H x y iv u Q I rx ry h
 obtain⟨a,p,as,m,c,W,L,rfl,rfl,hq,pr,va,q⟩:=h
 cases rx
 cases ry
 obtain⟨its,rv,pl,hz⟩:=I.list hq
 have ei:=refs_eq rv
 subst ei
 refine SeqAt.notIn_listAt (fun v=>decide (Sv.wOf H m c v=some W)) pl.isList (fun v hv=>?_) ⟨.bl _,H,I,rfl,?_⟩
 ·obtain⟨d,hd,rfl⟩:=List.mem_map.mp (show v∈as.map Value.ref by simpa using hv)
  obtain⟨i,hi⟩:=List.mem_iff_getElem?.mp hd
  obtain⟨W',_,v'⟩:=w5 pr hi
  intro prog w E Q' q'
  have e1:=(vl_key (k:=(m,W',c)) I.hok v').any (P':=prog) (w':=w)
  have e2:=(vl_key (k:=(m,W,c)) I.hok va).any (P':=prog) (w':=w)
  refine vk_eq (show X.A.in1.units+1 < cLine from by show X.A.units+1+1 < cLine;omega) e1 e2 ?_
  rw[Sv.wOf_eq H m c v'] at q'
  have:decide ((m,W',c)=(m,W,c))=decide (some W'=some W):=by
   rw[decide_eq_decide]
   exact⟨fun e=>by injection e with _ e;injection e with e;rw[e],fun e=>by injection e with e;rw[e]⟩
  rw[this];exact q'
 ·have e:((as.map Value.ref).toArray.any fun v=>decide (Sv.wOf H m c v=some W))=decide (W∈L):=by
   rw[List.any_toArray]
   clear hq rv pl hz q
   induction pr with
   | nil=>simp
   | @cons d W' as L h t ih =>
    rw[List.map_cons,List.any_cons,ih,Sv.wOf_eq H m c h]
    by_cases e:W'=W
    ·subst e;simp
    ·have:¬ W=W':=fun z=>e z.symm
     simp [e,this]
  rw[e];exact q
theorem zEq {K:PySem.W.Frag}{H:Hp}{m c:Int}:∀ {as:List Addr}{L:List (List Int)},Paired (fun d W=>vU H d m W c) as L→RdDs K H (as.map V.ref) (L.map fun W=>dV m W c)
 | _,_,.nil=>.nil
 | _,_,.cons h t=>.cons (rd_val h) (zEq t)
theorem dep_vals (m c:Int):∀ L:List (List Int),PyData.depthAll (L.map fun W=>dV m W c)≤5
 | []=>by simp [PyData.depthAll]
 | W::L=>by
  have h1:=dep_vals m c L
  have h2:=zEc W
  have h3:(dV m W c).depth≤5:=by
   unfold dV
   simp only [PyData.depthAll,PyData.depth]
   omega
  simp only [List.map_cons,PyData.depthAll]
  omega
theorem lay_vals (m c:Int):∀ L:List (List Int),PyData.canLayAll0 (L.map fun W=>dV m W c)=true
 | []=>by simp [PyData.canLayAll0]
 | W::L=>by
  simp only [List.map_cons,PyData.canLayAll0,lay_vals m c L,Bool.and_true]
  simp [dV,PyData.canLay0,PyData.canLayAll0,lay_intsV W]
theorem zDi (m c:Int)(L:List (List Int)):shaped (.list (L.map fun W=>dV m W c))=true:=by
 have h:=dep_vals m c L
 unfold shaped
 rw[Bool.and_eq_true]
 refine⟨by simp only [PyData.canLay0];exact lay_vals m c L,decide_eq_true ?_⟩
 simp only [PyData.depth]
 omega
theorem mix_vals (m c:Int):∀ L:List (List Int),noMixAll (L.map fun W=>dV m W c) (L.map fun W=>dV m W c)=true
 | []=>by simp [noMixAll]
 | W::L=>by simp only [List.map_cons,noMixAll,mix_val,mix_vals m c L,Bool.and_self]
theorem sam_vals (m c:Int):∀ L:List (List Int),PySem.Spec.sameAll (L.map fun W=>dV m W c) (L.map fun W=>dV m W c)=true
 | []=>by simp [PySem.Spec.sameAll]
 | W::L=>by simp only [List.map_cons,PySem.Spec.sameAll,sam_val,sam_vals m c L];simp
theorem eqVs_of {K:PySem.W.Frag}{H:Hp}{p p':Addr}{as bs:List Addr}{m c:Int}{L:List (List Int)}{Q:VK}(h1:SqL K H p (as.map V.ref))(h2:SqL K H p' (bs.map V.ref))(a:Paired (fun d W=>vU H d m W c) as L)(b:Paired (fun d W=>vU H d m W c) bs L)(q:Q (.bl true) H):rEqD K (.ref p) (.ref p') H Q :=
 ⟨_,_,.lst h1 (zEq a),.lst h2 (zEq b),zDi ..,zDi ..,by simp only [noMix];exact mix_vals ..,by simp only [same];rw[sam_vals];exact q⟩
theorem neVs_of {K:PySem.W.Frag}{H:Hp}{p p':Addr}{as bs:List Addr}{m c:Int}{L:List (List Int)}{Q:VK}(h1:SqL K H p (as.map V.ref))(h2:SqL K H p' (bs.map V.ref))(a:Paired (fun d W=>vU H d m W c) as L)(b:Paired (fun d W=>vU H d m W c) bs L)(q:Q (.bl false) H):rNeD K (.ref p) (.ref p') H Q :=
 ⟨_,_,.lst h1 (zEq a),.lst h2 (zEq b),zDi ..,zDi ..,by simp only [noMix];exact mix_vals ..,by simp only [same];rw[sam_vals];exact q⟩
end L2
namespace L2
open PySem PySem.Spec PyProof.Rows PySem.SeqAt
theorem ix_tupK {X:Cx}{K:PySem.W.Frag}(h:X.K=K):IxR X (rIxT K):=by subst h;exact zX
abbrev kS (s:Str):Key:=.inr s
theorem DPut.s {H:Hp}{a:Addr}{kvs:List (Key×V)}{i:Str}{v:V}(e:H a=some (.dK kvs))(hl:kvs.length < sizeLine):DPut H a (.str i) v (upd H a (.dK (putK kvs (kS i) v))):=DPut.k (k:=kS i) e hl
end L2
namespace L2
open PySem PySem.Spec PyProof.Rows PySem.SeqAt
section
variable {X:Cx}{ev:Expr}{a b:Str}{i:Int}{ja jb}{pa pb pf pos:Pos}
theorem pe_fstr (hv:PE X ev (tC (.int i)))(hi:i.natAbs.log2 < 1920)(hz:(Str.empty ++ a ++ (toString i:Str) ++ b).length≤sizeLine)(hz1:(Str.empty ++ a).length≤sizeLine)(hz2:(Str.empty ++ a ++ (toString i:Str)).length≤sizeLine) :
  PE X (.JoinedStr [.Constant (.str a) ja pa,.FormattedValue ev (-1) none pf,.Constant (.str b) jb pb] pos) (tC (.str (Str.empty ++ a ++ (toString i:Str) ++ b))):=by
 intro pins s σ H Q I h
 refine JoinedStr_many (joinParts_cons (thn (pe_str (X:=X) pins s σ H (fun v H'=>v=.str a∧H'=H) I ⟨rfl,rfl⟩) fun v s1 ⟨x,H1,I1,r1,e1,e2⟩=>?_))
 subst e1 e2
 obtain⟨t,rfl⟩:=r1
 refine⟨hz1,joinParts_cons (FormattedValue_plain (thn (hv pins s1 σ H1 (fun v H'=>v=.int i∧H'=H1) I1 ⟨rfl,rfl⟩) fun v s2 ⟨x,H2,I2,r2,e1,e2⟩=>?_))⟩
 subst e1 e2
 obtain⟨t,rfl⟩:=r2
 refine formatField_int_small hi ⟨hz2,?_⟩
 have I3:=I2.tok (s2.toks+1+1)
 refine joinParts_cons (thn (pe_str (X:=X) pins _ σ H2 (fun v H'=>v=.str b∧H'=H2) I3 ⟨rfl,rfl⟩) fun v s4 ⟨x,H4,I4,r4,e1,e2⟩=>?_)
 subst e1 e2
 obtain⟨t,rfl⟩:=r4
 refine⟨hz,joinParts_nil ⟨.str (Str.empty ++ a ++ (toString i:Str) ++ b),H4,I4.tok _,⟨_,rfl⟩,h⟩ hz⟩
end
theorem pss_none {X:Cx}{ss:List Stmt}:PSs X ss (fun _ _ _=>False):=fun _ _ _ _ _ _ h=>h.elim
end L2
namespace K59
open PySem L2
def top (i:Nat):Stmt:=PySem.Challenge.pw_evenhub_k59_all_sides.main.body.getD i (.Pass ⟨0,0,0,0⟩)
abbrev jR:Stmt:=top 15
theorem zFr:zN ["one","other","great","small","left"] ["one","other"] (zA jR):=⟨rfl,rfl,rfl,by decide +kernel,rfl,by decide +kernel,by decide +kernel⟩
abbrev zCq:Stmt:=top 16
theorem sc_joint:zN ["one","other"] ["one","other"] (zA zCq):=⟨rfl,rfl,rfl,by decide +kernel,rfl,by decide +kernel,by decide +kernel⟩
abbrev zAi:Stmt:=top 17
theorem sc_euclid:zN ["one","other","bits","rests","counts","turn"] ["one","other","bits"] (zA zAi):=⟨rfl,rfl,rfl,by decide +kernel,rfl,by decide +kernel,by decide +kernel⟩
abbrev wV:Stmt:=top 18
theorem zCy:zN ["pair","turn"] ["pair","turn"] (zA wV):=⟨rfl,rfl,rfl,by decide +kernel,rfl,by decide +kernel,by decide +kernel⟩
abbrev wT:Stmt:=top 19
theorem zDa:zN ["rests","bits","length","behind","turn"] ["rests","bits"] (zA wT):=⟨rfl,rfl,rfl,by decide +kernel,rfl,by decide +kernel,by decide +kernel⟩
abbrev jE:Stmt:=top 20
abbrev zFb:Stmt:=top 23
theorem sc_plus:zN ["one","other"] ["one","other"] (zA zFb):=⟨rfl,rfl,rfl,by decide +kernel,rfl,by decide +kernel,by decide +kernel⟩
abbrev wR:Stmt:=top 24
theorem zDf:zN ["one","other"] ["one","other"] (zA wR):=⟨rfl,rfl,rfl,by decide +kernel,rfl,by decide +kernel,by decide +kernel⟩
abbrev zAj:Stmt:=top 25
theorem sc_scaled:zN ["load","many"] ["load","many"] (zA zAj):=⟨rfl,rfl,rfl,by decide +kernel,rfl,by decide +kernel,by decide +kernel⟩
abbrev jU:Stmt:=top 26
theorem zFu:zN ["load","step","n","outcome","hole","weight"] ["load","step"] (zA jU):=⟨rfl,rfl,rfl,by decide +kernel,rfl,by decide +kernel,by decide +kernel⟩
abbrev zAd:Stmt:=top 27
abbrev zAb:Stmt:=top 28
abbrev zCh:Stmt:=top 29
theorem sc_finer:zN ["load","many","n","outcome","hole","weight"] ["load","many"] (zA zCh):=⟨rfl,rfl,rfl,by decide +kernel,rfl,by decide +kernel,by decide +kernel⟩
abbrev zCf:Stmt:=top 31
theorem sc_parts:zN ["n","found","left","p","q"] ["n"] (zA zCf):=⟨rfl,rfl,rfl,by decide +kernel,rfl,by decide +kernel,by decide +kernel⟩
abbrev vZ:Stmt:=top 32
theorem zAv:zN ["n","p","q"] ["n","p"] (zA vZ):=⟨rfl,rfl,rfl,by decide +kernel,rfl,by decide +kernel,by decide +kernel⟩
abbrev zCn:Stmt:=top 33
theorem sc_units:zN ["n"] ["n"] (zA zCn):=⟨rfl,rfl,rfl,by decide +kernel,rfl,by decide +kernel,by decide +kernel⟩
abbrev zFj:Stmt:=top 34
theorem sc_back:zN ["step","n","told"] ["step","n"] (zA zFj):=⟨rfl,rfl,rfl,by decide +kernel,rfl,by decide +kernel,by decide +kernel⟩
abbrev w4:Stmt:=top 36
theorem zDz:zN ["load","p","hole","many","place"] ["load","p","hole","many"] (zA w4):=⟨rfl,rfl,rfl,by decide +kernel,rfl,by decide +kernel,by decide +kernel⟩
abbrev wG:Stmt:=top 37
theorem zBn:zN ["n","p","hole","step"] ["n","p","hole"] (zA wG):=⟨rfl,rfl,rfl,by decide +kernel,rfl,by decide +kernel,by decide +kernel⟩
abbrev vM:Stmt:=top 39
theorem j0:zN ["p","q"] ["p","q"] (zA vM):=⟨rfl,rfl,rfl,by decide +kernel,rfl,by decide +kernel,by decide +kernel⟩
abbrev zFn:Stmt:=top 40
theorem sc_rest:zN ["load","n","left","rows","p","q","hole","many"] ["load"] (zA zFn):=⟨rfl,rfl,rfl,by decide +kernel,rfl,by decide +kernel,by decide +kernel⟩
abbrev jT:Stmt:=top 41
theorem zFd:zN ["n","p","q","lead"] ["n","p","q"] (zA jT):=⟨rfl,rfl,rfl,by decide +kernel,rfl,by decide +kernel,by decide +kernel⟩
abbrev zCp:Stmt:=top 43
theorem sc_value:zN ["load","bottom","left","n","step","weights","by"] ["load","bottom"] (zA zCp):=⟨rfl,rfl,rfl,by decide +kernel,rfl,by decide +kernel,by decide +kernel⟩
abbrev vI:Stmt:=top 44
theorem jS:zN ["first","others","outcome","number"] ["first","others"] (zA vI):=⟨rfl,rfl,rfl,by decide +kernel,rfl,by decide +kernel,by decide +kernel⟩
abbrev zCj:Stmt:=top 45
theorem sc_whole:zN ["many"] ["many"] (zA zCj):=⟨rfl,rfl,rfl,by decide +kernel,rfl,by decide +kernel,by decide +kernel⟩
abbrev s_on:Stmt:=top 46
theorem sc_on:zN ["x","n"] ["x","n"] (zA s_on):=⟨rfl,rfl,rfl,by decide +kernel,rfl,by decide +kernel,by decide +kernel⟩
abbrev wA:Stmt:=top 47
theorem zAw:zN ["x","y","n"] ["x","y"] (zA wA):=⟨rfl,rfl,rfl,by decide +kernel,rfl,by decide +kernel,by decide +kernel⟩
abbrev zAf:Stmt:=top 48
theorem sc_raised:zN ["x","y","n"] ["x","y","n"] (zA zAf):=⟨rfl,rfl,rfl,by decide +kernel,rfl,by decide +kernel,by decide +kernel⟩
abbrev zCu:Stmt:=top 49
theorem sc_added:zN ["x","y","n"] ["x","y"] (zA zCu):=⟨rfl,rfl,rfl,by decide +kernel,rfl,by decide +kernel,by decide +kernel⟩
abbrev zEf:Stmt:=top 50
abbrev zFm:Stmt:=top 53
theorem sc_side:zN ["x","step"] ["x","step"] (zA zFm):=⟨rfl,rfl,rfl,by decide +kernel,rfl,by decide +kernel,by decide +kernel⟩
abbrev wC:Stmt:=top 54
theorem zBb:zN ["x"] ["x"] (zA wC):=⟨rfl,rfl,rfl,by decide +kernel,rfl,by decide +kernel,by decide +kernel⟩
abbrev zCt:Stmt:=top 55
theorem sc_sides:zN ["x","found","step"] ["x"] (zA zCt):=⟨rfl,rfl,rfl,by decide +kernel,rfl,by decide +kernel,by decide +kernel⟩
abbrev w6:Stmt:=top 56
theorem zDo:zN ["x","outcome","other"] ["x"] (zA w6):=⟨rfl,rfl,rfl,by decide +kernel,rfl,by decide +kernel,by decide +kernel⟩
abbrev vS:Stmt:=top 57
theorem j8:zN ["x","n","outcome","group","step","powers"] ["x"] (zA vS):=⟨rfl,rfl,rfl,by decide +kernel,rfl,by decide +kernel,by decide +kernel⟩
abbrev vQ:Stmt:=top 58
abbrev vF:Stmt:=top 59
abbrev zBm:Stmt:=top 60
abbrev wD:Stmt:=top 62
theorem zAt:zN ["script","k"] ["script","k"] (zA wD):=⟨rfl,rfl,rfl,by decide +kernel,rfl,by decide +kernel,by decide +kernel⟩
abbrev wS:Stmt:=top 63
theorem zDc:zN ["found"] ["found"] (zA wS):=⟨rfl,rfl,rfl,by decide +kernel,rfl,by decide +kernel,by decide +kernel⟩
abbrev wQ:Stmt:=top 64
theorem zDb:zN ["found"] ["found"] (zA wQ):=⟨rfl,rfl,rfl,by decide +kernel,rfl,by decide +kernel,by decide +kernel⟩
abbrev vX:Stmt:=top 65
theorem zAu:zN ["one","other"] ["one","other"] (zA vX):=⟨rfl,rfl,rfl,by decide +kernel,rfl,by decide +kernel,by decide +kernel⟩
abbrev wZ:Stmt:=top 66
theorem zDy:zN ["n","cells","far","most","load","k","at"] ["n","cells","far","most"] (zA wZ):=⟨rfl,rfl,rfl,by decide +kernel,rfl,by decide +kernel,by decide +kernel⟩
abbrev v7:Stmt:=top 67
theorem zAr:zN ["weights","step","n","found","k"] ["weights","step"] (zA v7):=⟨rfl,rfl,rfl,by decide +kernel,rfl,by decide +kernel,by decide +kernel⟩
abbrev vR:Stmt:=top 68
theorem zAc:zN ["load","step","n","found","again"] ["load","step"] (zA vR):=⟨rfl,rfl,rfl,by decide +kernel,rfl,by decide +kernel,by decide +kernel⟩
abbrev wI:Stmt:=top 69
theorem zBq:zN ["cell","most","found"] ["cell","most"] (zA wI):=⟨rfl,rfl,rfl,by decide +kernel,rfl,by decide +kernel,by decide +kernel⟩
abbrev jV:Stmt:=top 70
theorem zFx:zN ["which","x"] ["which","x"] (zA jV):=⟨rfl,rfl,rfl,by decide +kernel,rfl,by decide +kernel,by decide +kernel⟩
abbrev wB:Stmt:=top 71
theorem zAp:zN ["which","x","sure","other","e"] ["which","x"] (zA wB):=⟨rfl,rfl,rfl,by decide +kernel,rfl,by decide +kernel,by decide +kernel⟩
abbrev zY:Stmt:=top 72
theorem wP:zN ["which","x","sure","e"] ["which","x"] (zA zY):=⟨rfl,rfl,rfl,by decide +kernel,rfl,by decide +kernel,by decide +kernel⟩
abbrev wU:Stmt:=top 73
theorem zCv:zN ["cell"] ["cell"] (zA wU):=⟨rfl,rfl,rfl,by decide +kernel,rfl,by decide +kernel,by decide +kernel⟩
abbrev s_law:Stmt:=top 74
theorem sc_law:zN ["script","n","load","x","free","due","u","one","found"] ["script"] (zA s_law):=⟨rfl,rfl,rfl,by decide +kernel,rfl,by decide +kernel,by decide +kernel⟩
structure Txt (K:PySem.W.Frag)(mg:Str→Option Value)(C_HubError C_NoTurn C_NoFit C_TooWide C_NoRing C_NoHole C_NoWheel C_NoNumber C_NoQuotient C_NoText C_NoName C_NoRow:Addr)(t_MOST_HOLES:Tok)(t_LEAD_BITS:Tok)(t_MOST_HOLES_SIDED:Tok):Prop where
 g_MOST_HOLES:mg "MOST_HOLES"=some (.int 420 t_MOST_HOLES)
 g_LEAD_BITS:mg "LEAD_BITS"=some (.int 128 t_LEAD_BITS)
 g_MOST_HOLES_SIDED:mg "MOST_HOLES_SIDED"=some (.int 60 t_MOST_HOLES_SIDED)
 c_HubError:mg "HubError"=some (.ref C_HubError)
 c_NoTurn:mg "NoTurn"=some (.ref C_NoTurn)
 c_NoFit:mg "NoFit"=some (.ref C_NoFit)
 c_TooWide:mg "TooWide"=some (.ref C_TooWide)
 c_NoRing:mg "NoRing"=some (.ref C_NoRing)
 c_NoHole:mg "NoHole"=some (.ref C_NoHole)
 c_NoWheel:mg "NoWheel"=some (.ref C_NoWheel)
 c_NoNumber:mg "NoNumber"=some (.ref C_NoNumber)
 c_NoQuotient:mg "NoQuotient"=some (.ref C_NoQuotient)
 c_NoText:mg "NoText"=some (.ref C_NoText)
 c_NoName:mg "NoName"=some (.ref C_NoName)
 c_NoRow:mg "NoRow"=some (.ref C_NoRow)
 x_TooWide:PySem.W.excIn K C_TooWide [.type "ValueError",.type "Exception",.type "BaseException",.type "object"] "ValueError.__new__"=true
 m_TooWide_TooWide:PySem.W.exmOne K (.ref C_TooWide) (.ref C_TooWide)=some true
 m_TooWide_HubError:PySem.W.exmOne K (.ref C_TooWide) (.ref C_HubError)=some true
 e_TooWide:ExcK K C_TooWide
 i_TooWide_ValueError:PySem.W.kitOne K (.ref C_TooWide) (.type "ValueError")=some true
 j_1:PySem.W.kitAny K (.ref C_TooWide) [.ref C_NoFit,.ref C_NoHole,.ref C_NoName,.ref C_NoNumber,.ref C_NoQuotient,.ref C_NoRing]=some false
 j_2:PySem.W.kitAny K (.ref C_TooWide) [.ref C_NoRow,.ref C_NoText,.ref C_NoTurn,.ref C_NoWheel]=some false
 d_divisor:Dn K mg "divisor" jR ["one","other"]
 d_joint:Dn K mg "joint" zCq ["one","other"]
 d_euclid:Dn K mg "euclid" zAi ["one","other","bits"]
 d_turned_on:Dn K mg "turned_on" wV ["pair","turn"]
 d_next_turn:Dn K mg "next_turn" wT ["rests","bits"]
 d_sure_turn:Dn K mg "sure_turn" jE ["rest","later_rest"]
 d_plus:Dn K mg "plus" zFb ["one","other"]
 d_check_fit:Dn K mg "check_fit" wR ["one","other"]
 d_scaled:Dn K mg "scaled" zAj ["load","many"]
 d_skipped:Dn K mg "skipped" jU ["load","step"]
 d_laid_on:Dn K mg "laid_on" zAd ["one","other"]
 d_brought:Dn K mg "brought" zAb ["borne","other","place"]
 d_finer:Dn K mg "finer" zCh ["load","many"]
 d_parts:Dn K mg "parts" zCf ["n"]
 d_prime_power:Dn K mg "prime_power" vZ ["n","p"]
 d_units:Dn K mg "units" zCn ["n"]
 d_back:Dn K mg "back" zFj ["step","n"]
 d_lay_ring:Dn K mg "lay_ring" w4 ["load","p","hole","many"]
 d_ring_holes:Dn K mg "ring_holes" wG ["n","p","hole"]
 d_first_dropped:Dn K mg "first_dropped" vM ["p","q"]
 d_rest:Dn K mg "rest" zFn ["load"]
 d_dropped:Dn K mg "dropped" jT ["n","p","q"]
 d_value:Dn K mg "value" zCp ["load","bottom"]
 d_divisor_of_all:Dn K mg "divisor_of_all" vI ["first","others"]
 d_whole:Dn K mg "whole" zCj ["many"]
 d_on:Dn K mg "on" s_on ["x","n"]
 d_joint_wheel:Dn K mg "joint_wheel" wA ["x","y"]
 d_raised:Dn K mg "raised" zAf ["x","y","n"]
 d_added:Dn K mg "added" zCu ["x","y"]
 d_times:Dn K mg "times" zEf ["x","y"]
 d_side:Dn K mg "side" zFm ["x","step"]
 d_check_sided:Dn K mg "check_sided" wC ["x"]
 d_sides:Dn K mg "sides" zCt ["x"]
 d_side_sum:Dn K mg "side_sum" w6 ["x"]
 d_side_product:Dn K mg "side_product" vS ["x"]
 d_powers_outside:Dn K mg "powers_outside" vQ ["step","group","n"]
 d_product_by_powers:Dn K mg "product_by_powers" vF ["x","powers"]
 d_joined:Dn K mg "joined" zBm ["group","powers","n"]
 d_law_cell_at:Dn K mg "_law_cell_at" wD ["script","k"]
 d_law_whole:Dn K mg "_law_whole" wS ["found"]
 d_law_plain:Dn K mg "_law_plain" wQ ["found"]
 d_law_divisor:Dn K mg "_law_divisor" vX ["one","other"]
 d_law_load:Dn K mg "_law_load" wZ ["n","cells","far","most"]
 d_law_skipped:Dn K mg "_law_skipped" v7 ["weights","step"]
 d_law_gathered:Dn K mg "_law_gathered" vR ["load","step"]
 d_law_bottom:Dn K mg "_law_bottom" wI ["cell","most"]
 d_law_ask:Dn K mg "_law_ask" jV ["which","x"]
 d_law_refused:Dn K mg "_law_refused" wB ["which","x"]
 d_law_refused_by_base:Dn K mg "_law_refused_by_base" zY ["which","x"]
 d_law_wheel:Dn K mg "_law_wheel" wU ["cell"]
 b_len:mg "len"=none
 b_isinstance:mg "isinstance"=none
 b_int:mg "int"=none
 b_bool:mg "bool"=none
 b_abs:mg "abs"=none
 b_tuple:mg "tuple"=none
 b_list:mg "list"=none
 b_range:mg "range"=none
 b_enumerate:mg "enumerate"=none
 b_zip:mg "zip"=none
 b_sum:mg "sum"=none
 b_all:mg "all"=none
 b_sorted:mg "sorted"=none
 b_ValueError:mg "ValueError"=none
 b_min:mg "min"=none
def spPP:Sp:=fun vs H Q _=>∃ n p:Int,vs=[.int n,.int p]∧1≤n∧n≤10000∧2≤p∧p≤10000∧∀ q,Pt.QEnd n p q→Q (.int q) H
def PairsAt (H:Hp)(r:Addr)(ps:List (Int×Int)):Prop:=∃ as:List Addr,H r=some (.lst (as.map V.ref))∧Paired (fun a (x:Int×Int)=>H a=some (.tup [.int x.1,.int x.2])) as ps
def spParts:Sp:=fun vs H Q _=>∃ n:Int,vs=[.int n]∧1≤n∧n≤10000∧∀ r H' ps,zP H H'→H r=none→PairsAt H' r ps→Pt.Parts n ps→Q (.ref r) H'
section
variable {t_MOST_HOLES:Tok}{C_HubError C_NoTurn C_NoFit C_TooWide C_NoRing C_NoHole C_NoWheel C_NoNumber C_NoQuotient C_NoText C_NoName C_NoRow:Addr}{P:Program}{w:World}{K:PySem.W.Frag}{mg:Str→Option Value}{base:Heap}
def spLaw (K:PySem.W.Frag):Sp:=fun vs H Q _=>∃ (a:Addr)(ns:List Int),vs=[.ref a]∧SqL K H a (ns.map V.int)∧ns.length≤63∧∀ H',Q (.bl true) H'
theorem zEz (T:Txt K mg C_HubError C_NoTurn C_NoFit C_TooWide C_NoRing C_NoHole C_NoWheel C_NoNumber C_NoQuotient C_NoText C_NoName C_NoRow t_MOST_HOLES t_LEAD_BITS t_MOST_HOLES_SIDED):Df P w K mg base 1 "prime_power" ["n","p"] spPP:=by
 refine T.d_prime_power.ok zAv (fun vs H Q E h=>?_) (fun f cdv A outer s H vs Q E hr h=>?_)
 ·obtain⟨_,_,rfl,_⟩:=h;rfl
 obtain⟨n,p,rfl,n1,n2,p1,p2,q⟩:=h
 have nd:=zAv.nd
 refine⟨_,(zE (zL (i:=2) nd rfl (Or.inl rfl) zG) (zE (jY PassesOwn.never (zS zDw (zO vN (pv 0) (zO vL (pv 2) (pv 1))) zG (zZ _)) (zI (zL (i:=2) nd rfl (Or.inl rfl) (zO vL (pv 2) (pv 1))))) (zI (zV (pv 2))))),?_⟩
 refine⟨fun m σ H'=>H'=H∧∃ q,σ=[some (.int n),some (.int p),some (.int q)]∧Pt.QInv n p q∧m=(n-q).toNat,⟨_,rfl,1,rfl,Pt.q0 n p,rfl⟩,?_⟩
 rintro m σ H' ⟨rfl,z,rfl,hz,rfl⟩
 have z1:=hz.pos
 have z2:=Pt.q_le n1 hz
 have zp:=Pt.q_grow p1 z1
 refine⟨_,rfl,_,rfl,_,rfl,_,_,rfl,rfl,vD (by omega) (by omega),_,_,rfl,rfl,(show 0 < z*p by omega),rfl,_,rfl,?_⟩
 refine zAl (fun c=>?_) (fun c=>?_)
 ·have hq:=Pt.q1 p1 hz (vint c)
  have hl:=Pt.q_le n1 hq
  refine⟨_,fun _ _ h=>h,?_⟩
  refine⟨_,rfl,_,rfl,_,_,rfl,rfl,vD (by omega) (by omega),?_⟩
  exact⟨(n-z*p).toNat,by omega,rfl,_,rfl,hq,rfl⟩
 ·exact⟨_,rfl,q z (Pt.q2 hz (nvint c))⟩
theorem ok_parts (T:Txt K mg C_HubError C_NoTurn C_NoFit C_TooWide C_NoRing C_NoHole C_NoWheel C_NoNumber C_NoQuotient C_NoText C_NoName C_NoRow t_MOST_HOLES t_LEAD_BITS t_MOST_HOLES_SIDED):Df P w K mg base 2 "parts" ["n"] spParts:=by
 have D_prime_power:=zEz (P:=P) (w:=w) (base:=base) T
 refine T.d_parts.ok sc_parts (fun vs H Q E h=>?_) (fun f cdv A outer s H vs Q E hr h=>?_)
 ·obtain⟨_,rfl,_⟩:=h;rfl
 obtain⟨n,rfl,n1,n2,q⟩:=h
 have nd:=sc_parts.nd
 refine⟨_,(zE (zL (i:=1) nd rfl (Or.inl rfl) (zEm zF)) (zE (zL (i:=2) nd rfl (Or.inl rfl) (pv 0)) (zE (zL (i:=3) nd rfl (Or.inl rfl) zG) (zE (jY PassesOwn.never (zS op_le (zO vL (pv 3) (pv 3)) (pv 2) (zZ _)) (zE (zL (i:=4) nd rfl (Or.inl rfl) (zR D_prime_power (hr.mono (by decide)) (by rfl) (zB (pv 2) (zB (pv 3) zF)))) (zE (wM (zS zEy (pv 4) zG (zZ _)) (zE (jF (pe_bm PySem.F.plainAttrs_list PySem.F.slot_list_append PySem.F.type_list_append zBv (pv 1) (zB (jL (zB (pv 3) (zB (pv 4) zF))) zF))) (zI (zL (i:=2) nd rfl (Or.inl rfl) (zO vT (pv 2) (pv 4))))) vB) (zI (zL (i:=3) nd rfl (Or.inl rfl) (zO wE (pv 3) zG)))))) (zE (wM (zS zEy (pv 2) zG (zZ _)) (zI (jF (pe_bm PySem.F.plainAttrs_list PySem.F.slot_list_append PySem.F.type_list_append zBv (pv 1) (zB (jL (zB (pv 2) (zB (pv 2) zF))) zF)))) vB) (zI (zV (pv 1)))))))),?_⟩
 refine⟨Nat.zero_le _,fun r hr0=>?_⟩
 refine⟨_,rfl,?_⟩
 refine⟨fun m σ H'=>zP H H'∧∃ (as:List Addr)(ps:List (Int×Int))(left p:Int)(qv:Option V),σ=[some (.int n),some (.ref r),some (.int left),some (.int p),qv] ∧
   H' r=some (.lst (as.map V.ref))∧Paired (fun a (x:Int×Int)=>H' a=some (.tup [.int x.1,.int x.2])) as ps∧Pt.PInv n ps left p∧1≤left∧left≤10000∧2≤p∧p≤10001∧(ps.length:Int)+2≤p∧m=(20000-p).toNat,
  ⟨_,vC (zP.refl H) hr0,[],[],n,2,none,rfl,zH,.nil,Pt.start n,n1,n2,by omega,by omega,by simp,rfl⟩,?_⟩
 rintro m σ H' ⟨sm,as,ps,left,p,qv,rfl,hl,pr,inv,l1,l2,p1,p2,hlen,rfl⟩
 have al:=Paired.length pr
 refine⟨_,rfl,_,rfl,_,_,rfl,rfl,vD (by omega) (by omega),_,rfl,_,_,rfl,rfl,_,rfl,?_⟩
 refine zAl (fun c=>?_) (fun c=>?_)
 ·have hd:=dec c
  have a:=Int.mul_le_mul_of_nonneg_left p1 (show 0≤p by omega)
  refine⟨_,fun _ _ h=>h,?_⟩
  refine⟨_,rfl,_,rfl,left,p,rfl,l1,l2,p1,by omega,fun z hz=>?_⟩
  refine⟨_,rfl,_,_,rfl,rfl,_,rfl,?_⟩
  refine zAl (fun c=>?_) (fun c=>?_)
  ·have z1:=dec c
   have zl:=Pt.q_le l1 hz.inv
   have lp:=Pt.left_pos l1 hz.inv.dv hz.inv.pos
   refine⟨_,rfl,.inl ⟨rfl,_,SqL.of hl⟩,_,rfl,_,rfl,(by show 2≤sizeLine;decide),fun t ht=>?_⟩
   have rt:r≠t:=zJ hl ht
   refine⟨r,_,_,rfl,rfl,(zK rt).trans hl,by rw[List.length_map];exact zAm (by omega),?_⟩
   refine⟨_,rfl,_,rfl,_,_,rfl,rfl,vK (by omega) (by omega),?_⟩
   refine⟨_,rfl,_,_,rfl,rfl,?_⟩
   refine⟨(20000-(p+1)).toNat,by omega,vC (vC sm (sm.free ht)) hr0,as ++ [t],ps ++ [(p,z)],left/z,p+1,some (.int z),rfl,?_,?_,Pt.turnA p1 inv hz z1,lp.1,by omega,by omega,by omega,by rw[List.length_append,List.length_singleton];omega,rfl⟩
   ·rw[zH,List.map_append];rfl
   ·refine Paired.snoc (Paired.mapP pr fun a x e=>?_) ?_
    ·rw[zK (zEs e hl (fun z=>by cases z)),zK (zJ e ht)];exact e
    ·rw[zK (Ne.symm rt)];exact zH
  ·refine⟨_,rfl,_,_,rfl,rfl,?_⟩
   exact⟨(20000-(p+1)).toNat,by omega,sm,as,ps,left,p+1,some (.int z),rfl,hl,pr,Pt.turnB inv hz (ndec c),l1,l2,by omega,by omega,by omega,rfl⟩
 ·have hd:=ndec c
  refine⟨_,rfl,_,_,rfl,rfl,_,rfl,?_⟩
  refine zAl (fun c=>?_) (fun c=>?_)
  ·have z1:=dec c
   refine⟨_,rfl,.inl ⟨rfl,_,SqL.of hl⟩,_,rfl,_,rfl,(by show 2≤sizeLine;decide),fun t ht=>?_⟩
   have rt:r≠t:=zJ hl ht
   refine⟨r,_,_,rfl,rfl,(zK rt).trans hl,by rw[List.length_map];exact zAm (by omega),?_⟩
   refine⟨_,rfl,?_⟩
   refine q r _ (ps ++ [(left,left)]) (vC (vC sm (sm.free ht)) hr0) hr0 ⟨as ++ [t],?_,?_⟩ (Pt.endA p1 inv hd z1)
   ·rw[zH,List.map_append];rfl
   ·refine Paired.snoc (Paired.mapP pr fun a x e=>?_) ?_
    ·rw[zK (zEs e hl (fun z=>by cases z)),zK (zJ e ht)];exact e
    ·rw[zK (Ne.symm rt)];exact zH
  ·exact⟨_,rfl,q r H' ps sm hr0 ⟨as,hl,pr⟩ (Pt.endB inv l1 (ndec c))⟩
def spWhole:Sp:=fun vs H Q _=>∃ i:Int,vs=[.int i]∧Q (.bl true) H
theorem ok_law_whole (T:Txt K mg C_HubError C_NoTurn C_NoFit C_TooWide C_NoRing C_NoHole C_NoWheel C_NoNumber C_NoQuotient C_NoText C_NoName C_NoRow t_MOST_HOLES t_LEAD_BITS t_MOST_HOLES_SIDED):Df P w K mg base 1 "_law_whole" ["found"] spWhole:=by
 refine T.d_law_whole.ok zDc (fun vs H Q E h=>?_) (fun f cdv A outer s H vs Q E hr h=>?_)
 ·obtain⟨_,rfl,_⟩:=h;rfl
 obtain⟨i,rfl,q⟩:=h
 have nd:=zDc.nd
 refine⟨_,(zI (zV (pe_and (zQ jA (by rfl) T.b_isinstance L2.vJ (zB (pv 0) (zB (zCg (v:=.ty "int") (by rfl) T.b_int L2.bi_int (by rfl)) zF))) (pe_one (pe_not (zQ jA (by rfl) T.b_isinstance L2.vJ (zB (pv 0) (zB (zCg (v:=.ty "bool") (by rfl) T.b_bool L2.bi_bool (by rfl)) zF)))))))),?_⟩
 refine⟨_,rfl,_,_,_,true,rfl,.int i,zDl _,true,rfl,iteT ?_⟩
 exact⟨_,rfl,_,_,_,false,rfl,.int i,L2.kit_ib,false,rfl,q⟩
def spCellAt (K:PySem.W.Frag):Sp:=fun vs H Q _=>∃ (a:Addr)(ns:List Int)(k:Int),vs=[.ref a,.int k]∧SqL K H a (ns.map V.int)∧0≤k∧∀ v:Int,Q (.int v) H
theorem zEw (T:Txt K mg C_HubError C_NoTurn C_NoFit C_TooWide C_NoRing C_NoHole C_NoWheel C_NoNumber C_NoQuotient C_NoText C_NoName C_NoRow t_MOST_HOLES t_LEAD_BITS t_MOST_HOLES_SIDED):Df P w K mg base 1 "_law_cell_at" ["script","k"] (spCellAt K):=by
 refine T.d_law_cell_at.ok zAt (fun vs H Q E h=>?_) (fun f cdv A outer s H vs Q E hr h=>?_)
 ·obtain⟨_,_,_,rfl,_⟩:=h;rfl
 obtain⟨a,ns,k,rfl,hS,k0,q⟩:=h
 have nd:=zAt.nd
 refine⟨_,(zE (wM (zS op_lt (pv 1) (zQ zU (by rfl) T.b_len L2.wW (zB (pv 0) zF)) (zZ _)) (zI (zV (vE jZ (pv 0) (pv 1) (fun _ _=>rfl)))) vB) (zI (zV zG))),?_⟩
 refine⟨_,rfl,_,rfl,a,_,rfl,.inl hS,_,_,rfl,rfl,_,rfl,?_⟩
 refine zAl (fun c=>?_) (fun c=>q 0)
 have hk:=dec c
 rw[List.length_map] at hk
 obtain⟨v,hv,_⟩:=atI_in k0 hk
 exact⟨_,rfl,_,rfl,a,_,_,_,rfl,rfl,hS,hv,q v⟩
def spNext:Sp:=fun vs H Q _=>∃ (r:Addr)(a b:Int),vs=[.ref r,.int 0]∧H r=some (.tup [.int a,.int b])∧0≤a∧a≤10000∧1≤b∧b≤10000∧∀ t H',zP H H'→H' t=some (.tup [.int 0,.int 1,.int 1,.int (-(a/b))])→Q (.ref t) H'
theorem ok_next_turn (T:Txt K mg C_HubError C_NoTurn C_NoFit C_TooWide C_NoRing C_NoHole C_NoWheel C_NoNumber C_NoQuotient C_NoText C_NoName C_NoRow t_MOST_HOLES t_LEAD_BITS t_MOST_HOLES_SIDED):Df P w K mg base 1 "next_turn" ["rests","bits"] spNext:=by
 refine T.d_next_turn.ok zDa (fun vs H Q E h=>?_) (fun f cdv A outer s H vs Q E hr h=>?_)
 ·obtain⟨_,_,_,rfl,_⟩:=h;rfl
 obtain⟨r,a,b,rfl,hR,a0,a1,b0,b1,q⟩:=h
 have nd:=zDa.nd
 have i0:atI [V.int a,V.int b] 0=some (.int a):=rfl
 have i1:atI [V.int a,V.int b] 1=some (.int b):=rfl
 have ba:bts a≤64:=bts_le (by omega)
 have bb:bts b≤64:=bts_le (by omega)
 refine⟨_,(zE (zL (i:=2) nd rfl (Or.inl rfl) (zQ (call_min2 rfl) (by rfl) T.b_min L2.bi_min (zB (pe_bm0 PySem.F.plainAttrs_int PySem.F.slot_int_bit_length PySem.F.type_int_bit_length mt_bits (vE zX (pv 0) zG (fun _ _=>rfl))) (zB (pe_bm0 PySem.F.plainAttrs_int PySem.F.slot_int_bit_length PySem.F.type_int_bit_length mt_bits (vE zX (pv 0) zG (fun _ _=>rfl))) zF)))) (zE (wM (zS zEy (pv 2) (zO wE (pv 1) (vV (v:=.int 128) (by rfl) T.g_LEAD_BITS ⟨_,rfl⟩)) (zZ _)) pss_none vB) (zI (zV (jL (zB zG (zB zG (zB zG (zB (pe_un un_neg (zO vT (vE zX (pv 0) zG (fun _ _=>rfl)) (vE zX (pv 0) zG (fun _ _=>rfl)))) zF))))))))),?_⟩
 refine⟨_,rfl,r,_,_,_,rfl,rfl,SqT.of hR,i0,rfl,_,rfl,rfl,_,rfl,r,_,_,_,rfl,rfl,SqT.of hR,i1,rfl,_,rfl,rfl,_,_,rfl,?_⟩
 refine⟨_,rfl,_,rfl,_,_,rfl,rfl,_,_,rfl,rfl,_,rfl,?_⟩
 refine zAl (fun c=>?_) (fun _=>?_)
 ·exfalso
  have c':=dec c
  split at c' <;> omega
 refine⟨_,rfl,r,_,_,_,rfl,rfl,SqT.of hR,i0,_,rfl,r,_,_,_,rfl,rfl,SqT.of hR,i1,_,_,rfl,rfl,vK (by omega) (by omega),_,rfl,(by show 4≤sizeLine;decide),fun t ht=>?_⟩
 exact q t _ (zM (zP.refl _) ht) zH
def spTurnOn:Sp:=fun vs H Q _=>∃ (r1 r2:Addr)(x y k:Int),vs=[.ref r1,.ref r2]∧H r1=some (.tup [.int x,.int y])∧H r2=some (.tup [.int 0,.int 1,.int 1,.int k])∧-10000≤k∧k≤10000∧∀ t H',zP H H'→H' t=some (.tup [.int y,.int (x+k*y)])→Q (.ref t) H'
theorem ok_turned_on (T:Txt K mg C_HubError C_NoTurn C_NoFit C_TooWide C_NoRing C_NoHole C_NoWheel C_NoNumber C_NoQuotient C_NoText C_NoName C_NoRow t_MOST_HOLES t_LEAD_BITS t_MOST_HOLES_SIDED):Df P w K mg base 1 "turned_on" ["pair","turn"] spTurnOn:=by
 refine T.d_turned_on.ok zCy (fun vs H Q E h=>?_) (fun f cdv A outer s H vs Q E hr h=>?_)
 ·obtain⟨_,_,_,_,_,rfl,_⟩:=h;rfl
 obtain⟨r1,r2,x,y,k,rfl,h1,h2,k0,k1,q⟩:=h
 have nd:=zCy.nd
 have p0:atI [V.int x,V.int y] 0=some (.int x):=rfl
 have p1:atI [V.int x,V.int y] 1=some (.int y):=rfl
 have t0:atI [V.int 0,V.int 1,V.int 1,V.int k] 0=some (.int 0):=rfl
 have t1:atI [V.int 0,V.int 1,V.int 1,V.int k] 1=some (.int 1):=rfl
 have t2:atI [V.int 0,V.int 1,V.int 1,V.int k] 2=some (.int 1):=rfl
 have t3:atI [V.int 0,V.int 1,V.int 1,V.int k] 3=some (.int k):=rfl
 refine⟨_,(zI (zV (jL (zB (zO wE (zO vL (vE zX (pv 1) zG (fun _ _=>rfl)) (vE zX (pv 0) zG (fun _ _=>rfl))) (zO vL (vE zX (pv 1) zG (fun _ _=>rfl)) (vE zX (pv 0) zG (fun _ _=>rfl)))) (zB (zO wE (zO vL (vE zX (pv 1) zG (fun _ _=>rfl)) (vE zX (pv 0) zG (fun _ _=>rfl))) (zO vL (vE zX (pv 1) zG (fun _ _=>rfl)) (vE zX (pv 0) zG (fun _ _=>rfl)))) zF))))),?_⟩
 refine⟨_,rfl,r2,_,_,_,rfl,rfl,SqT.of h2,t0,_,rfl,r1,_,_,_,rfl,rfl,SqT.of h1,p0,_,_,rfl,rfl,vD (by decide) (by decide),_,rfl,r2,_,_,_,rfl,rfl,SqT.of h2,t1,_,rfl,r1,_,_,_,rfl,rfl,SqT.of h1,p1,_,_,rfl,rfl,vD (by decide) (by decide),_,_,rfl,rfl,?_⟩
 refine⟨_,rfl,r2,_,_,_,rfl,rfl,SqT.of h2,t2,_,rfl,r1,_,_,_,rfl,rfl,SqT.of h1,p0,_,_,rfl,rfl,vD (by decide) (by decide),_,rfl,r2,_,_,_,rfl,rfl,SqT.of h2,t3,_,rfl,r1,_,_,_,rfl,rfl,SqT.of h1,p1,_,_,rfl,rfl,vD (by omega) (by omega),_,_,rfl,rfl,?_⟩
 refine⟨(by show 2≤sizeLine;decide),fun t ht=>?_⟩
 have e1:0*x+1*y=y:=by omega
 have e2:1*x+k*y=x+k*y:=by omega
 dsimp only
 rw[e1,e2]
 exact q t _ (zM (zP.refl _) ht) zH
def spEuclid:Sp:=fun vs H Q _=>∃ (n st:Int),vs=[.int n,.int (st%n),.int 0]∧1≤n∧n≤10000∧∀ g c d t H',0≤g→Eh.Bk st n g c 0 d→zP H H'→H' t=some (.tup [.int g,.int c,.int 0,.int d])→Q (.ref t) H'
theorem ok_euclid (T:Txt K mg C_HubError C_NoTurn C_NoFit C_TooWide C_NoRing C_NoHole C_NoWheel C_NoNumber C_NoQuotient C_NoText C_NoName C_NoRow t_MOST_HOLES t_LEAD_BITS t_MOST_HOLES_SIDED):Df P w K mg base 2 "euclid" ["one","other","bits"] spEuclid:=by
 have D_next_turn:=ok_next_turn (P:=P) (w:=w) (base:=base) T
 have D_turned_on:=ok_turned_on (P:=P) (w:=w) (base:=base) T
 refine T.d_euclid.ok sc_euclid (fun vs H Q E h=>?_) (fun f cdv A outer s H vs Q E hr h=>?_)
 ·obtain⟨_,_,rfl,_⟩:=h;rfl
 obtain⟨n,st,rfl,n1,n2,q⟩:=h
 have nd:=sc_euclid.nd
 have b0:=Eh.bk0E (st:=st) (show 0 < n by omega)
 refine⟨_,(zE (zL (i:=3) nd rfl (Or.inl rfl) (jL (zB (pv 0) (zB (pv 1) zF)))) (zE (zL (i:=4) nd rfl (Or.inl rfl) (jL (zB zG (zB zG zF)))) (zE (jY PassesOwn.never (zS zEy (pe_bm0 PySem.F.plainAttrs_int PySem.F.slot_int_bit_length PySem.F.type_int_bit_length mt_bits (vE zX (pv 3) zG (fun _ _=>rfl))) (pv 2) (zZ _)) (zE (zL (i:=5) nd rfl (Or.inl rfl) (zR D_next_turn (hr.mono (by decide)) (by rfl) (zB (pv 3) (zB (pv 2) zF)))) (zE (zL (i:=3) nd rfl (Or.inl rfl) (zR D_turned_on (hr.mono (by decide)) (by rfl) (zB (pv 3) (zB (pv 5) zF)))) (zI (zL (i:=4) nd rfl (Or.inl rfl) (zR D_turned_on (hr.mono (by decide)) (by rfl) (zB (pv 4) (zB (pv 5) zF)))))))) (zI (zV (jL (zB (vE zX (pv 3) zG (fun _ _=>rfl)) (zB (vE zX (pv 4) zG (fun _ _=>rfl)) (zB (vE zX (pv 3) zG (fun _ _=>rfl)) (zB (vE zX (pv 4) zG (fun _ _=>rfl)) zF)))))))))),?_⟩
 refine⟨_,rfl,_,rfl,(by show 2≤sizeLine;decide),fun ra hra=>?_⟩
 refine⟨(by show 2≤sizeLine;decide),fun ca hca=>?_⟩
 have sm0:zP H (upd (upd H ra (.tup [.int n,.int (st%n)])) ca (.tup [.int 0,.int 1])):=zM (zM (zP.refl _) hra) hca
 have hr0:upd (upd H ra (.tup [.int n,.int (st%n)])) ca (.tup [.int 0,.int 1]) ra=some (.tup [.int n,.int (st%n)]):=(zK (zJ zH hca)).trans zH
 have hc0:upd (upd H ra (.tup [.int n,.int (st%n)])) ca (.tup [.int 0,.int 1]) ca=some (.tup [.int 0,.int 1]):=zH
 generalize upd (upd H ra (.tup [.int n,.int (st%n)])) ca (.tup [.int 0,.int 1])=H0 at sm0 hr0 hc0 ⊢
 refine⟨fun m σ H'=>zP H H'∧∃ (ra ca:Addr)(r c lr lc:Int)(tv:Option V),σ=[some (.int n),some (.int (st%n)),some (.int 0),some (.ref ra),some (.ref ca),tv]∧H' ra=some (.tup [.int r,.int lr])∧H' ca=some (.tup [.int c,.int lc])∧0≤r∧r≤10000∧0≤lr∧lr≤10000∧Eh.Bk st n r c lr lc∧m=lr.toNat,
  ⟨_,sm0,ra,ca,n,0,st%n,1,none,rfl,hr0,hc0,by omega,by omega,b0.1,by omega,b0.2.2,rfl⟩,?_⟩
 rintro m σ H' ⟨sm,ra,ca,r,c,lr,lc,tv,rfl,hR,hC,r0,r1,l0,l1,bk,rfl⟩
 have i0:atI [V.int r,V.int lr] 0=some (.int r):=rfl
 have i1:atI [V.int r,V.int lr] 1=some (.int lr):=rfl
 have c0:atI [V.int c,V.int lc] 0=some (.int c):=rfl
 have c1:atI [V.int c,V.int lc] 1=some (.int lc):=rfl
 refine⟨_,rfl,ra,_,_,_,rfl,rfl,SqT.of hR,i1,rfl,_,rfl,rfl,_,rfl,_,_,rfl,rfl,_,rfl,?_⟩
 refine zAl (fun c'=>?_) (fun c'=>?_)
 ·have ne:=bts_pos (dec c')
  have t:=Eh.bktE r0 l0 ne bk
  have dl:=Eh.div_le r0 (show 0 < lr by omega)
  refine⟨_,fun _ _ h=>h,?_⟩
  refine⟨_,rfl,_,rfl,ra,r,lr,rfl,hR,r0,r1,by omega,l1,fun ta H1 sm1 h1=>?_⟩
  refine⟨_,rfl,_,rfl,ra,ta,r,lr,_,rfl,sm1 _ _ hR,h1,by omega,by omega,fun rb H2 sm2 h2=>?_⟩
  refine⟨_,rfl,_,rfl,ca,ta,c,lc,_,rfl,sm2 _ _ (sm1 _ _ hC),sm2 _ _ h1,by omega,by omega,fun cb H3 sm3 h3=>?_⟩
  have e1:r + -(r/lr)*lr=r-r/lr*lr:=by rw[Int.neg_mul];omega
  have e2:c + -(r/lr)*lc=c-r/lr*lc:=by rw[Int.neg_mul];omega
  rw[e1] at h2
  rw[e2] at h3
  exact⟨_,t.2.2.1,((sm.trans sm1).trans sm2).trans sm3,rb,cb,_,_,_,_,_,rfl,sm3 _ _ h2,h3,l0,l1,t.1,by omega,t.2.2.2,rfl⟩
 ·have z:lr=0:=bts_zero (ndec c')
  subst z
  refine⟨_,rfl,ra,_,_,_,rfl,rfl,SqT.of hR,i0,_,rfl,ca,_,_,_,rfl,rfl,SqT.of hC,c0,_,rfl,ra,_,_,_,rfl,rfl,SqT.of hR,i1,_,rfl,ca,_,_,_,rfl,rfl,SqT.of hC,c1,(by show 4≤sizeLine;decide),fun t ht=>?_⟩
  exact q r c lc t _ r0 bk (zM sm ht) zH
def spBack:Sp:=fun vs H Q _=>∃ st n:Int,vs=[.int st,.int n]∧1≤n∧n≤10000∧Eh.G st n=1∧∀ (u:Int) H',1≤u→u≤n→(st*u-1)%n=0→zP H H'→Q (.int u) H'
theorem ok_back (T:Txt K mg C_HubError C_NoTurn C_NoFit C_TooWide C_NoRing C_NoHole C_NoWheel C_NoNumber C_NoQuotient C_NoText C_NoName C_NoRow t_MOST_HOLES t_LEAD_BITS t_MOST_HOLES_SIDED):Df P w K mg base 3 "back" ["step","n"] spBack:=by
 have D_euclid:=ok_euclid (P:=P) (w:=w) (base:=base) T
 refine T.d_back.ok sc_back (fun vs H Q E h=>?_) (fun f cdv A outer s H vs Q E hr h=>?_)
 ·obtain⟨_,_,rfl,_⟩:=h;rfl
 obtain⟨st,n,rfl,n1,n2,g1,q⟩:=h
 have nd:=sc_back.nd
 refine⟨_,(zE (zL (i:=2) nd rfl (Or.inl rfl) (zR D_euclid (hr.mono (by decide)) (by rfl) (zB (pv 1) (zB (zO vN (pv 0) (pv 1)) (zB zG zF))))) (zE (wM (zS zDh (vE zX (pv 2) zG (fun _ _=>rfl)) zG (zZ _)) (zI jW) vB) (zI (zV (zO wE (zO vN (zO op_sub (vE zX (pv 2) zG (fun _ _=>rfl)) zG) (pv 1)) zG))))),?_⟩
 refine⟨_,rfl,_,rfl,_,rfl,_,_,rfl,rfl,(show 0 < n by omega),n,st,rfl,n1,n2,fun g c d t H1 g0 bk sm1 h1=>?_⟩
 have i0:atI [V.int g,V.int c,V.int 0,V.int d] 0=some (.int g):=rfl
 have i1:atI [V.int g,V.int c,V.int 0,V.int d] 1=some (.int c):=rfl
 have eg:g=1:=(Eh.out g0 bk.g rfl).trans g1
 refine⟨_,rfl,t,_,_,_,rfl,rfl,SqT.of h1,i0,rfl,_,rfl,iteNS (congrArg V.int eg) ?_⟩
 have o:=Eh.bkoE (show 0 < n by omega) g0 bk rfl g1
 refine⟨_,rfl,t,_,_,_,rfl,rfl,SqT.of h1,i1,_,_,rfl,rfl,_,rfl,_,_,rfl,rfl,(show 0 < n by omega),_,_,rfl,rfl,?_⟩
 exact q _ _ o.1 o.2.1 o.2.2 sm1
def spLay:Sp:=fun vs H Q _=>∃ (r:Addr)(a:List Int)(n:Nat)(p hole many:Int),vs=[.ref r,.int p,.int hole,.int many]∧H r=some (.lst (a.map V.int))∧a.length=n∧1≤n∧n≤420∧2≤p∧p∣(n:Int) ∧
 ∀ H' b,(∀ c o,c≠r→H c=some o→H' c=some o)→H' r=some (.lst (b.map V.int))→b.length=n→(∀ x,Ld.at' b x=Ld.at' a x+Rg.rv n (p,hole,many) x)→Q .non H'
def spRH:Sp:=fun vs H Q _=>∃ (n:Nat)(p hole:Int)(st:Nat),vs=[.int n,.int p,.int hole]∧1≤n∧n≤420∧2≤p∧p.toNat≤n∧(n:Int)/p=st∧0 < st∧n=p.toNat*st∧∀ t,H t=none→Q (.ref t) (upd H t (.lst ((rg3 (hole%st) st p.toNat).map V.int)))
theorem ok_ring_holes (T:Txt K mg C_HubError C_NoTurn C_NoFit C_TooWide C_NoRing C_NoHole C_NoWheel C_NoNumber C_NoQuotient C_NoText C_NoName C_NoRow t_MOST_HOLES t_LEAD_BITS t_MOST_HOLES_SIDED):Df P w K mg base 1 "ring_holes" ["n","p","hole"] spRH:=by
 refine T.d_ring_holes.ok zBn (fun vs H Q E h=>?_) (fun f cdv A outer s H vs Q E hr h=>?_)
 ·obtain⟨_,_,_,_,rfl,_⟩:=h;rfl
 obtain⟨n,p,hole,st,rfl,n1,n2,p2,pn,est,st0,enp,q⟩:=h
 have nd:=zBn.nd
 have stn:(st:Int)≤n:=by rw[← est];exact Int.ediv_le_self _ (by omega)
 have lo0:=Int.emod_nonneg hole (show (st:Int)≠0 by omega)
 have lo1:=Int.emod_lt_of_pos hole (show (0:Int) < st by omega)
 refine⟨_,(zE (zL (i:=3) nd rfl (Or.inl rfl) (zO vT (pv 0) (pv 1))) (zI (zV (pe_lrng3 rfl (by rfl) T.b_list (by rfl) T.b_range (zB (zO vN (pv 2) (pv 3)) (zB (pv 0) (zB (pv 3) zF))))))),?_⟩
 refine⟨_,rfl,_,rfl,_,_,rfl,rfl,vK (by omega) (by omega),?_⟩
 dsimp only
 rw[est]
 refine⟨_,rfl,_,rfl,_,_,rfl,rfl,(show (0:Int) < st by omega),_,rfl,_,rfl,_,_,_,rfl,⟨lo0,by omega,by omega,by omega,by omega,by omega⟩,?_⟩
 have cn:=Rg.cnt_ring st0 (show 0 < p.toNat by omega) enp hole
 have c3:cnt3 (hole%(st:Int)) (n:Int) (st:Int)=p.toNat:=by unfold cnt3;rw[if_pos cn.1];exact cn.2
 rw[c3]
 exact q
theorem ok_lay_ring (T:Txt K mg C_HubError C_NoTurn C_NoFit C_TooWide C_NoRing C_NoHole C_NoWheel C_NoNumber C_NoQuotient C_NoText C_NoName C_NoRow t_MOST_HOLES t_LEAD_BITS t_MOST_HOLES_SIDED):Df P w K mg base 2 "lay_ring" ["load","p","hole","many"] spLay:=by
 have D_ring_holes:=ok_ring_holes (P:=P) (w:=w) (base:=base) T
 refine T.d_lay_ring.ok zDz (fun vs H Q E h=>?_) (fun f cdv A outer s H vs Q E hr h=>?_)
 ·obtain⟨_,_,_,_,_,_,rfl,_⟩:=h;rfl
 obtain⟨r,a,n,p,hole,many,rfl,ha,la,n1,n2,p2,pd,q⟩:=h
 have nd:=zDz.nd
 obtain⟨st,est,st0,enp,ple⟩:=Rg.step_of n1 p2 pd
 have stn:(st:Int)≤n:=by rw[← est];exact Int.ediv_le_self _ (by omega)
 refine⟨_,(zI (j7 PassesOwn.never rfl (jP (zR D_ring_holes (hr.mono (by decide)) (by rfl) (zB (zQ zU (by rfl) T.b_len L2.wW (zB (pv 0) zF)) (zB (pv 1) (zB (pv 2) zF))))) (vA (i:=4) nd rfl (Or.inl rfl)) (zI (zFe (zO wE (vE jZ (pv 0) (pv 4) (fun _ _=>rfl)) (pv 3)) (zFi (pv 0) (pv 4) set_list))))),?_⟩
 refine⟨_,rfl,r,_,rfl,.inl (SqL.of ha),_,rfl,_,rfl,n,p,hole,st,by rw[mlen la];rfl,n1,n2,p2,ple,est,st0,enp,fun t ht=>⟨t,rfl,⟨_,SqL.of zH⟩,?_⟩⟩
 have nt:r≠t:=zJ ha ht
 have kp0:∀ c o,c≠r→H c=some o→upd H t (.lst ((rg3 (hole%st) st p.toNat).map V.int)) c=some o:=fun c o _ h=>(zK (zJ h ht)).trans h
 have ha0:upd H t (.lst ((rg3 (hole%st) st p.toNat).map V.int)) r=some (.lst (a.map V.int)):=(zK nt).trans ha
 have ht0:upd H t (.lst ((rg3 (hole%st) st p.toNat).map V.int)) t=some (.lst ((rg3 (hole%st) st p.toNat).map V.int)):=zH
 generalize upd H t (.lst ((rg3 (hole%st) st p.toNat).map V.int))=H0 at kp0 ha0 ht0 ⊢
 have rl:((rg3 (hole%st) st p.toNat).map V.int).length=p.toNat:=by unfold rg3;rw[List.length_map,List.length_map,List.length_range]
 refine zAg (xs:=(rg3 (hole%st) st p.toNat).map V.int) (fun i σ H2=>(∀ c o,c≠r→H c=some o→H2 c=some o)∧H2 t=some (.lst ((rg3 (hole%st) st p.toNat).map V.int))∧∃ (b:List Int)(o1:Option V),σ=[some (.ref r),some (.int p),some (.int hole),some (.int many),o1]∧H2 r=some (.lst (b.map V.int))∧b.length=n ∧
   ∀ x:Int,Ld.at' b x=Ld.at' a x+(if (x-hole)%st=0∧(x%n)/st < (i:Int) then many else 0))
  ⟨kp0,ht0,a,none,rfl,ha0,la,Rg.lay0 (by omega) st0 hole many a⟩ (fun i σ H2 _ z=>SqL.of z.2.1) ?_ ?_
 ·rintro i xv σ H2 hx ⟨kp,ht2,b,o1,rfl,hb,lb,inv⟩
  obtain⟨k,rfl,ek⟩:=int_at hx
  have hi:i < p.toNat:=by have:=(List.getElem?_eq_some_iff.mp hx).1;rwa [rl] at this
  have ek':k=hole%st+(i:Int)*st:=by
   unfold rg3 at ek
   rw[List.getElem?_map,List.getElem?_range hi] at ek
   exact (Option.some.inj ek).symm
  subst ek'
  obtain⟨y0,y1,nx⟩:=Rg.lay1 st0 enp hi lb inv
  refine⟨_,rfl,_,rfl,r,_,_,_,rfl,rfl,SqL.of hb,atI_k y0 (by omega),_,rfl,_,_,rfl,rfl,_,rfl,_,rfl,r,_,_,_,rfl,rfl,hb,ixN_in y0 (by rw[mlen lb];exact y1),?_⟩
  rw[set_int]
  exact⟨fun c o ne h=>(zK ne).trans (kp c o ne h),(zK (Ne.symm nt)).trans ht2,_,_,rfl,zH,by rw[List.length_set,lb],nx⟩
 ·rintro σ H2 ⟨kp,_,b,o1,rfl,hb,lb,inv⟩
  rw[rl] at inv
  refine q H2 b kp hb lb fun x=>?_
  rw[Rg.lay2 st0 (show 0 < p.toNat by omega) enp inv x]
  unfold Rg.rv
  rw[est]
def spFD:Sp:=fun vs H Q _=>∃ p q:Int,vs=[.int p,.int q]∧2≤p∧p≤10000∧Q (.int (q-q/p)) H
theorem zDg (T:Txt K mg C_HubError C_NoTurn C_NoFit C_TooWide C_NoRing C_NoHole C_NoWheel C_NoNumber C_NoQuotient C_NoText C_NoName C_NoRow t_MOST_HOLES t_LEAD_BITS t_MOST_HOLES_SIDED):Df P w K mg base 1 "first_dropped" ["p","q"] spFD:=by
 refine T.d_first_dropped.ok j0 (fun vs H Q E h=>?_) (fun f cdv A outer s H vs Q E hr h=>?_)
 ·obtain⟨_,_,rfl,_⟩:=h;rfl
 obtain⟨p,q,rfl,p2,pz,k⟩:=h
 have nd:=j0.nd
 refine⟨_,(zI (zV (zO op_sub (pv 1) (zO vT (pv 1) (pv 0))))),?_⟩
 exact⟨_,rfl,_,rfl,_,rfl,_,_,rfl,rfl,vK (by omega) (by omega),_,_,rfl,rfl,k⟩
theorem pq_le {n:Nat}{ps:List (Int×Int)}{p q:Int}(hp:Pt.Parts n ps)(mem:(p,q)∈ps):2≤p∧p≤q∧q≤n:=by
 have a:=Pt.zFc (hp.row _ mem)
 have b:=Pt.le_Prd ps hp.row _ mem
 rw[hp.prd] at b
 exact⟨a.1,a.2,b⟩
def spDropped:Sp:=fun vs H Q _=>∃ (n:Nat)(p q:Int)(ps:List (Int×Int)),vs=[.int n,.int p,.int q]∧1≤n∧n≤420∧Pt.Parts n ps∧(p,q)∈ps ∧
 ∀ u r H',((n:Int)/q*u-1)%q=0→zP H H'→H r=none→H' r=some (.lst ((Rt.drs p q u n).map V.int))→Q (.ref r) H'
theorem ok_dropped (T:Txt K mg C_HubError C_NoTurn C_NoFit C_TooWide C_NoRing C_NoHole C_NoWheel C_NoNumber C_NoQuotient C_NoText C_NoName C_NoRow t_MOST_HOLES t_LEAD_BITS t_MOST_HOLES_SIDED):Df P w K mg base 4 "dropped" ["n","p","q"] spDropped:=by
 have D_back:=ok_back (P:=P) (w:=w) (base:=base) T
 have D_first_dropped:=zDg (P:=P) (w:=w) (base:=base) T
 refine T.d_dropped.ok zFd (fun vs H Q E h=>?_) (fun f cdv A outer s H vs Q E hr h=>?_)
 ·obtain⟨_,_,_,_,rfl,_⟩:=h;rfl
 obtain⟨n,p,q,ps,rfl,n1,n2,hp,mem,k⟩:=h
 have nd:=zFd.nd
 have pq:=pq_le hp mem
 refine⟨_,(zE (zL (i:=3) nd rfl (Or.inr rfl) (zR D_back (hr.mono (by decide)) (by rfl) (zB (zO vT (pv 0) (pv 2)) (zB (pv 2) zF)))) (zI (zV (vO (cap:=[("q",2),("p",1),("lead",3)]) (tgs:=["hole"])  rfl rfl rfl (by decide +kernel) (by decide +kernel) (jD (by rfl)) (jK rfl (jK rfl (jK rfl jG))) (jI ⟨rfl,Or.inl rfl,Or.inl rfl,_,rfl⟩ (jI ⟨rfl,Or.inl rfl,Or.inl rfl,_,rfl⟩ (jI ⟨rfl,Or.inl rfl,Or.inl rfl,_,rfl⟩ jB))) (vW (by decide)) (zBo (by rfl) T.b_range (zB (pv 0) zF)) (fun C s H fp=>⟨(vA (i:=3) (show (["q","p","lead","hole"]:List Str).Nodup by decide +kernel) rfl (Or.inl rfl) (Or.inr rfl)),(pts_one (zS op_ge (zO vN (zO vL (pv 3) (pv 2)) (pv 0)) (zR D_first_dropped (hr.mono (by decide)) (by rfl) (zB (pv 1) (zB (pv 0) zF))) (zZ _))),(pv 3)⟩))))),?_⟩
 refine⟨_,rfl,_,rfl,_,_,rfl,rfl,vK (by omega) (by omega),_,rfl,_,q,rfl,by omega,by omega,Rs.G_part hp mem,fun u HB u1 u2 hu smB=>?_⟩
 have pc:=Rt.Pc.mk' n1 hp mem hu
 refine⟨_,rfl,_,rfl,by omega,by omega,?_⟩
 rw[Int.toNat_natCast]
 refine zEo (fun i ys H2=>H2=HB∧ys=(Rt.drs p q u i).map V.int) ⟨rfl,rfl⟩ (fun i ys H2 hi z=>by rw[z.2,List.length_map];have:=Rt.drs_len (p:=p) (q:=q) (u:=u) i;exact zAm (by omega)) ?_ ?_
 ·rintro i ys H2 hi ⟨rfl,rfl⟩
  refine⟨_,rfl,_,rfl,_,_,rfl,rfl,vD (by omega) (by omega),_,rfl,_,_,rfl,rfl,(show 0 < q by omega),_,rfl,_,rfl,p,q,rfl,pq.1,by omega,_,_,rfl,rfl,_,rfl,?_⟩
  refine zAl (fun c=>?_) (fun c=>?_)
  ·have t:=(pc.top_iff i).mp (dec c)
   refine⟨_,rfl,rfl,?_⟩
   simp only [Rt.drs]
   rw[if_pos t,List.map_append];rfl
  ·have t:¬ Rt.top p q u i=p-1:=fun z=>ndec c ((pc.top_iff i).mpr z)
   refine⟨rfl,?_⟩
   simp only [Rt.drs]
   rw[if_neg t,List.append_nil]
 ·rintro ys H2 ⟨rfl,rfl⟩ D hD
  exact k u D _ hu (zM smB hD) (smB.free hD) zH
def spRest (K:PySem.W.Frag):Sp:=fun vs H Q _=>∃ (r:Addr)(a:List Int)(n:Nat),vs=[.ref r]∧(SqL K H r (a.map V.int)∨SqT K H r (a.map V.int))∧a.length=n∧1≤n∧n≤420 ∧
 ∀ t le ro H' b ps l rows,zP H H'→H t=none→H le=none→H ro=none→H' t=some (.tup [.ref le,.ref ro])→H' le=some (.lst (b.map V.int))→b.length=n→Rt.Ld' n ps l→(∀ x,Ld.at' b x=Rt.R n l (Ld.at' a) x)→TrAt H' ro rows→(Rt.zBa n (fun p _=>p∈ps.map Prod.fst) a b rows∧rows.length≤4000)→Q (.ref t) H'
theorem ok_rest (T:Txt K mg C_HubError C_NoTurn C_NoFit C_TooWide C_NoRing C_NoHole C_NoWheel C_NoNumber C_NoQuotient C_NoText C_NoName C_NoRow t_MOST_HOLES t_LEAD_BITS t_MOST_HOLES_SIDED):Df P w K mg base 5 "rest" ["load"] (spRest K):=by
 have D_parts:=ok_parts (P:=P) (w:=w) (base:=base) T
 have D_dropped:=ok_dropped (P:=P) (w:=w) (base:=base) T
 have D_lay_ring:=ok_lay_ring (P:=P) (w:=w) (base:=base) T
 refine T.d_rest.ok sc_rest (fun vs H Q E h=>?_) (fun f cdv A outer s H vs Q E hr h=>?_)
 ·obtain⟨_,_,_,rfl,_⟩:=h;rfl
 obtain⟨r,a,n,rfl,ha,la,n1,n2,q⟩:=h
 have nd:=sc_rest.nd
 refine⟨_,(zE (zL (i:=1) nd rfl (Or.inl rfl) (zQ zU (by rfl) T.b_len L2.wW (zB (pv 0) zF))) (zE (zL (i:=2) nd rfl (Or.inl rfl) (zBk zCw (by rfl) T.b_list L2.zEn (zB (pv 0) zF))) (zE (zL (i:=3) nd rfl (Or.inl rfl) (zEm zF)) (zE (j7 PassesOwn.never rfl (jP (zR D_parts (hr.mono (by decide)) (by rfl) (zB (pv 1) zF))) (zFl rfl (wF (vA (i:=4) nd rfl (Or.inl rfl)) (wF (vA (i:=5) nd rfl (Or.inl rfl)) zCm))) (zI (j7 PassesOwn.never rfl (jP (zR D_dropped (hr.mono (by decide)) (by rfl) (zB (pv 1) (zB (pv 4) (zB (pv 5) zF))))) (vA (i:=6) nd rfl (Or.inl rfl)) (zE (zL (i:=7) nd rfl (Or.inl rfl) (vE jZ (pv 2) (pv 6) (fun _ _=>rfl))) (zI (wM (zS zDh (pv 7) zG (zZ _)) (zE (jF (zR D_lay_ring (hr.mono (by decide)) (by rfl) (zB (pv 2) (zB (pv 4) (zB (pv 6) (zB (pe_un un_neg (pv 7)) zF)))))) (zI (jF (pe_bm PySem.F.plainAttrs_list PySem.F.slot_list_append PySem.F.type_list_append zBv (pv 3) (zB (jL (zB (pv 4) (zB (pv 6) (zB (pv 7) zF)))) zF))))) vB)))))) (zI (zV (jL (zB (pv 2) (zB (pv 3) zF))))))))),?_⟩
 refine⟨_,rfl,r,_,rfl,ha,?_⟩
 rw[mlen la]
 refine⟨_,rfl,r,_,rfl,ha,fun le hle=>?_⟩
 refine⟨Nat.zero_le _,fun ro hro=>?_⟩
 have nlr:le≠ro:=zJ zH hro
 have ro0:H ro=none:=by rwa [zK (Ne.symm nlr)] at hro
 have sm0:zP H (upd (upd H le (.lst (a.map V.int))) ro (.lst [])):=zM (zM (zP.refl _) hle) hro
 have hl0:upd (upd H le (.lst (a.map V.int))) ro (.lst []) le=some (.lst (a.map V.int)):=(zK nlr).trans zH
 have hr0:upd (upd H le (.lst (a.map V.int))) ro (.lst []) ro=some (.lst []):=zH
 generalize upd (upd H le (.lst (a.map V.int))) ro (.lst [])=H0 at sm0 hl0 hr0 ⊢
 refine⟨_,rfl,n,rfl,by omega,by omega,fun r1 H1 ps sm1 f1 pa hp=>?_⟩
 obtain⟨as,hl,pr⟩:=pa
 have al:=Paired.length pr
 have few:=Rt.few_parts hp n2
 have n1l:r1≠le:=Ne.symm (zJ hl0 f1)
 have n1r:r1≠ro:=Ne.symm (zJ hr0 f1)
 have kH:∀ {H':Hp},(∀ c o,c≠le→c≠ro→H1 c=some o→H' c=some o)→zP H H':=fun kp c o h=>kp c o (fun z=>by rw[z,hle] at h;cases h) (fun z=>by rw[z,ro0] at h;cases h) (sm1 _ _ (sm0 _ _ h))
 have tl:∀ {x:Addr}{o:List V},H1 x=some (.tup o)→x≠le∧x≠ro:=fun e=>⟨zEs e (sm1 _ _ hl0) (fun z=>by cases z),zEs e (sm1 _ _ hr0) (fun z=>by cases z)⟩
 refine⟨r1,rfl,⟨_,SqL.of hl⟩,?_⟩
 refine zAg (xs:=as.map V.ref) (fun i σ H4=>(∀ c o,c≠le→c≠ro→H1 c=some o→H4 c=some o)∧∃ (b:List Int)(l:List ((Int×Int)×Int))(rows:List (Int×Int×Int))(o1 o2 o3 o4:Option V),σ=[some (.ref r),some (.int n),some (.ref le),some (.ref ro),o1,o2,o3,o4] ∧
   H4 le=some (.lst (b.map V.int))∧b.length=n∧l.map Prod.fst=ps.take i∧(∀ z∈l,((n:Int)/z.1.2*z.2-1)%z.1.2=0)∧(∀ x,Ld.at' b x=Rt.R n l (Ld.at' a) x)∧TrAt H4 ro rows∧Rt.zBa n (fun p _=>p∈(ps.take i).map Prod.fst) a b rows∧rows.length≤i*n)
  ⟨fun c o _ _ h=>h,a,[],[],none,none,none,none,rfl,sm1 _ _ hl0,la,by simp,by simp,fun x=>rfl,⟨[],sm1 _ _ hr0,.nil⟩,Rt.rows0 a,by simp⟩ (fun i σ H4 _ z=>SqL.of (z.1 _ _ n1l n1r hl)) ?_ ?_
 ·rintro i x σ H4 hx ⟨kp,b,l,rows,o1,o2,o3,o4,rfl,hb,lb,lm,lle,bv,tr,rok,rl⟩
  obtain⟨ad,rfl,ea⟩:=ref_at hx
  obtain⟨⟨p,z⟩,ep,hat⟩:=w5 pr ea
  have mem:(p,z)∈ps:=List.mem_of_getElem? ep
  have ilt:=(List.getElem?_eq_some_iff.mp ep).1
  have pq:=pq_le hp mem
  have pd:p∣(n:Int):=((Pt.jX hp (p,z)).mp mem).2.1
  have nt:=tl hat
  have lpc:∀ y∈l,Rt.Pc n y.1.1 y.1.2 y.2:=fun y hy=>Rt.Pc.mk' n1 hp (List.mem_of_mem_take (by rw[← lm];exact List.mem_map.mpr ⟨y,hy,rfl⟩)) (lle y hy)
  refine⟨ad,_,rfl,SqT.of (kp _ _ nt.1 nt.2 hat),rfl,_,_,rfl,_,_,rfl,rfl,?_⟩
  refine⟨_,rfl,_,rfl,_,rfl,n,p,z,ps,rfl,n1,n2,hp,mem,fun u r5 H5 hu sm5 f5 h5=>⟨r5,rfl,⟨_,SqL.of h5⟩,?_⟩⟩
  have pc:=Rt.Pc.mk' n1 hp mem hu
  have per:Ld.Per n (Ld.at' b):=Ld.vG lb
  have n5l:r5≠le:=Ne.symm (zJ hb f5)
  have n5r:r5≠ro:=by obtain⟨x,y,_⟩:=tr;exact Ne.symm (zJ y f5)
  have dlen:=Rt.drs_len (p:=p) (q:=z) (u:=u) n
  have newp:∀ x:Int,x∈(ps.take i).map Prod.fst→¬ x=p:=fun x hx e=>by
   obtain⟨y,hy,ey⟩:=List.mem_map.mp hx
   obtain⟨j,hj,ej⟩:=List.mem_iff_getElem.mp hy
   rw[List.length_take] at hj
   rw[List.getElem_take] at ej
   have pw:=List.pairwise_iff_getElem.mp hp.srt j i (by omega) ilt (by omega)
   rw[ej,(List.getElem?_eq_some_iff.mp ep).2] at pw
   have:y.1 < p:=pw
   omega
  refine zAg (xs:=(Rt.drs p z u n).map V.int) (fun j σ H6=>(∀ c o,c≠le→c≠ro→H5 c=some o→H6 c=some o)∧∃ (b6:List Int)(rows6:List (Int×Int×Int))(o3 o4:Option V),σ=[some (.ref r),some (.int n),some (.ref le),some (.ref ro),some (.int p),some (.int z),o3,o4] ∧
    H6 le=some (.lst (b6.map V.int))∧Rt.PI n p z u (Ld.at' b) j b6∧TrAt H6 ro rows6∧Rt.zBa n (fun x y=>x∈(ps.take i).map Prod.fst∨(x=p∧y∈(Rt.drs p z u n).take j)) a b6 rows6∧rows6.length≤i*n+j)
   ⟨fun c o _ _ h=>h,b,rows,_,_,rfl,sm5 _ _ hb,Rt.pi0 lb (fun _=>rfl),tr.same sm5,rok.weak (fun x y h=>.inl h),by omega⟩ (fun j σ H6 _ y=>SqL.of (y.1 _ _ n5l n5r h5)) ?_ ?_
  ·rintro j xv σ H6 hxj ⟨kp6,b6,rows6,o3,o4,rfl,hb6,pi,tr6,rok6,rl6⟩
   obtain⟨k,rfl,ek⟩:=int_at hxj
   have km:=List.mem_of_getElem? ek
   obtain⟨k0,k1,kt⟩:=Rt.zBe.mp km
   have jlt:=(List.getElem?_eq_some_iff.mp ek).1
   have kv:=pc.pi_val pi ek
   refine⟨_,rfl,_,rfl,le,_,_,_,rfl,rfl,SqL.of hb6,atI_k k0 (by rw[pi.len];exact k1),?_⟩
   rw[kv]
   refine⟨_,rfl,rfl,_,rfl,?_⟩
   have wk:∀ x y:Int,(x∈(ps.take i).map Prod.fst∨(x=p∧y∈(Rt.drs p z u n).take j))→(x∈(ps.take i).map Prod.fst∨(x=p∧y∈(Rt.drs p z u n).take (j+1))):=fun x y h=>h.imp id fun h=>⟨h.1,(Rt.zCd ek).mpr (.inl h.2)⟩
   refine zAl (fun c=>?_) (fun c=>?_)
   ·have mz:¬ Ld.at' b k=0:=vne c
    obtain⟨rs,hrs,prs⟩:=id tr6
    have rsl:=Paired.length prs
    refine⟨_,rfl,_,rfl,_,rfl,_,rfl,_,rfl,le,b6,n,p,k,_,rfl,hb6,pi.len,n1,n2,pq.1,pd,fun H7 b7 kp7 hb7 lb7 inv7=>?_⟩
    have hr7:H7 ro=some (.lst (rs.map V.ref)):=kp7 _ _ (Ne.symm nlr) hrs
    refine⟨_,rfl,.inl ⟨rfl,_,SqL.of hr7⟩,_,rfl,_,rfl,_,rfl,(by show 3≤sizeLine;decide),fun t ht=>?_⟩
    have hr8:upd H7 t (.tup [V.int p,V.int k,V.int (Ld.at' b k)]) ro=some (.lst (rs.map V.ref)):=(zK (zJ hr7 ht)).trans hr7
    have rot:ro≠t:=zJ hr7 ht
    refine⟨ro,_,_,rfl,rfl,hr8,by rw[List.length_map,rsl];have:=Nat.mul_le_mul (show i≤8 by omega) n2;exact zAm (by omega),?_⟩
    have kp8:∀ {c:Addr}{o:HO},c≠le→c≠ro→H6 c=some o→upd (upd H7 t (.tup [V.int p,V.int k,V.int (Ld.at' b k)])) ro (.lst (rs.map V.ref ++ [.ref t])) c=some o:=fun x y e=>by
     have e7:=kp7 _ _ x e
     exact ((zK y).trans (zK (zJ e7 ht))).trans e7
    refine⟨fun c o x y h=>kp8 x y (kp6 c o x y h),b7,rows6 ++ [(p,k,Ld.at' b k)],_,_,rfl,((zK nlr).trans (zK (zJ hb7 ht))).trans hb7,pc.pi1 per pi ek lb7 inv7,⟨rs ++ [t],by rw[zH,List.map_append];rfl,?_⟩,?_,by simp;omega⟩
    ·refine Paired.snoc (Paired.mapP prs fun d x e=>?_) ((zK (Ne.symm rot)).trans zH)
     exact kp8 (zEs e hb6 (fun z=>by cases z)) (zEs e hrs (fun z=>by cases z)) e
    ·exact rok6.snoc wk (.inr ⟨rfl,(Rt.zCd ek).mpr (.inr rfl)⟩) (fun x y h e=>h.elim (fun h=>newp x h e.1) fun h=>Rt.nodup_at (Rt.drs_srt n) ek (e.2▸h.2)) k0 k1 mz inv7
   ·have mz:Ld.at' b k=0:=nvne c
    exact⟨kp6,b6,rows6,_,_,rfl,hb6,pc.pi1z per pi ek mz,tr6,rok6.weak wk,by omega⟩
  ·rintro σ H6 ⟨kp6,b6,rows6,o3,o4,rfl,hb6,pi,tr6,rok6,rl6⟩
   rw[List.length_map] at pi rl6
   refine⟨fun c o x y h=>kp6 c o x y (sm5 _ _ (kp c o x y h)),b6,l ++ [((p,z),u)],rows6,_,_,_,_,rfl,hb6,pi.len,by rw[List.map_append,lm,Pt.take_snoc ep];rfl,fun y hy=>?_,fun x=>?_,tr6,rok6.weak (fun x y h=>?_),?_⟩
   ·rcases List.mem_append.mp hy with w | w
    ·exact lle y w
    ·rw[List.mem_singleton.mp w];exact hu
   ·rw[pc.pi_end pi,Rt.R_snoc]
    have:Ld.at' b=Rt.R n l (Ld.at' a):=funext bv
    rw[this]
   ·rw[Pt.take_snoc ep,List.map_append]
    rcases h with w | w
    ·exact List.mem_append_left _ w
    ·exact List.mem_append_right _ (by rw[w.1];simp)
   ·rw[Nat.succ_mul];omega
 ·rintro σ H4 ⟨kp,b,l,rows,o1,o2,o3,o4,rfl,hb,lb,lm,lle,bv,tr,rok,rl⟩
  rw[List.length_map,al,List.take_length] at lm rok
  have rl4:rows.length≤4000:=by rw[List.length_map,al] at rl;have:=Nat.mul_le_mul few n2;omega
  refine⟨_,rfl,_,rfl,(by show 2≤sizeLine;decide),fun t ht=>?_⟩
  have smt:zP H4 (upd H4 t (.tup [V.ref le,V.ref ro])):=zM (zP.refl _) ht
  have smF:=kH kp
  exact q t le ro _ b ps l rows (smF.trans smt) (smF.free ht) hle ro0 zH (smt _ _ hb) lb ⟨n1,hp,lm,lle⟩ bv (tr.same smt) ⟨rok,rl4⟩
def spDiv:Sp:=fun vs H Q _=>∃ a b:Int,vs=[.int a,.int b]∧Q (.int (Eh.G a b)) H
theorem zAk (T:Txt K mg C_HubError C_NoTurn C_NoFit C_TooWide C_NoRing C_NoHole C_NoWheel C_NoNumber C_NoQuotient C_NoText C_NoName C_NoRow t_MOST_HOLES t_LEAD_BITS t_MOST_HOLES_SIDED):Df P w K mg base 1 "divisor" ["one","other"] spDiv:=by
 refine T.d_divisor.ok zFr (fun vs H Q E h=>?_) (fun f cdv A outer s H vs Q E hr h=>?_)
 ·obtain⟨_,_,rfl,_⟩:=h;rfl
 obtain⟨a,b,rfl,q⟩:=h
 have nd:=zFr.nd
 refine⟨_,(zE (zL (i:=2) nd rfl (Or.inl rfl) (zQ zBw (by rfl) T.b_abs L2.bi_abs (zB (pv 0) zF))) (zE (zL (i:=3) nd rfl (Or.inl rfl) (zQ zBw (by rfl) T.b_abs L2.bi_abs (zB (pv 1) zF))) (zE (jY PassesOwn.never (zS zDh (pv 3) zG (zZ _)) (zE (zL (i:=4) nd rfl (Or.inl rfl) (zO vN (pv 2) (pv 3))) (zE (zL (i:=2) nd rfl (Or.inl rfl) (pv 3)) (zI (zL (i:=3) nd rfl (Or.inl rfl) (pv 4)))))) (zI (zV (pv 2)))))),?_⟩
 refine⟨_,rfl,_,rfl,?_⟩
 refine⟨_,rfl,_,rfl,?_⟩
 have st:=Eh.start a b
 refine⟨fun m σ H'=>H'=H∧∃ (g s:Int)(lv:Option V),σ=[some (.int a),some (.int b),some (.int g),some (.int s),lv]∧0≤g∧0≤s∧Eh.G g s=Eh.G a b∧m=s.toNat,
  ⟨_,rfl,Eh.ab a,Eh.ab b,none,rfl,st.1,st.2.1,st.2.2,rfl⟩,?_⟩
 rintro m σ H' ⟨rfl,g,s,lv,rfl,g0,s0,e,rfl⟩
 refine⟨_,rfl,rfl,_,rfl,?_⟩
 refine zAl (fun c=>?_) (fun c=>?_)
 ·have ne:=vne c
  have t:=Eh.turnE g0 s0 e ne
  refine⟨_,fun _ _ h=>h,?_⟩
  refine⟨_,rfl,_,rfl,_,_,rfl,rfl,(show 0 < s by omega),?_⟩
  refine⟨_,rfl,?_⟩
  refine⟨_,rfl,?_⟩
  exact⟨(g%s).toNat,t.2.2,rfl,_,_,_,rfl,s0,t.1,t.2.1,rfl⟩
 ·have z:=nvne c
  refine⟨_,rfl,?_⟩
  rw[Eh.out g0 e z]
  exact q
def spUnitsP:Sp:=fun vs H Q _=>∃ n:Nat,vs=[.int n]∧1≤n∧n≤420∧∀ r,H r=none→Q (.ref r) (upd H r (.lst ((Eh.us n n).map V.int)))
theorem ok_units (T:Txt K mg C_HubError C_NoTurn C_NoFit C_TooWide C_NoRing C_NoHole C_NoWheel C_NoNumber C_NoQuotient C_NoText C_NoName C_NoRow t_MOST_HOLES t_LEAD_BITS t_MOST_HOLES_SIDED):Df P w K mg base 2 "units" ["n"] spUnitsP:=by
 have D_divisor:=zAk (P:=P) (w:=w) (base:=base) T
 refine T.d_units.ok sc_units (fun vs H Q E h=>?_) (fun f cdv A outer s H vs Q E hr h=>?_)
 ·obtain⟨_,rfl,_⟩:=h;rfl
 obtain⟨n,rfl,n1,n2,q⟩:=h
 have nd:=sc_units.nd
 refine⟨_,(zI (zV (vO (cap:=[("n",0)]) (tgs:=["k"])  rfl rfl rfl (by decide +kernel) (by decide +kernel) (jD (by rfl)) (jK rfl jG) (jI ⟨rfl,Or.inl rfl,Or.inl rfl,_,rfl⟩ jB) (vW (by decide)) (pi_range2 (by rfl) T.b_range (zB zG (zB (zO wE (pv 0) zG) zF))) (fun C s H fp=>⟨(vA (i:=1) (show (["n","k"]:List Str).Nodup by decide +kernel) rfl (Or.inl rfl) (Or.inr rfl)),(pts_one (zS zDw (zR D_divisor (hr.mono (by decide)) (by rfl) (zB (pv 1) (zB (pv 0) zF))) zG (zZ _))),(pv 1)⟩)))),?_⟩
 refine⟨_,rfl,_,_,rfl,rfl,1,(n:Int)+1,rfl,⟨by omega,by omega,by omega,by omega⟩,?_⟩
 refine zCi (fun i ys H'=>H'=H∧ys=(Eh.us n i).map V.int) ⟨rfl,rfl⟩ (fun i ys H' hi ⟨_,z⟩=>by rw[z,List.length_map];have:=Eh.us_len n i;exact zAm (by omega)) ?_ ?_
 ·rintro i ys H' hi ⟨rfl,rfl⟩
  refine⟨_,rfl,_,rfl,_,_,rfl,rfl,_,rfl,?_⟩
  refine zAl (fun c=>?_) (fun c=>?_)
  ·exact⟨_,rfl,rfl,by rw[Eh.us_succ,if_pos (vint c)];simp⟩
  ·exact⟨rfl,by rw[Eh.us_succ,if_neg (nvint c)];simp⟩
 ·rintro ys H' ⟨rfl,rfl⟩ D hD
  have e:((n:Int)+1-1).toNat=n:=by omega
  rw[e]
  exact q D hD
def spDofA (K:PySem.W.Frag):Sp:=fun vs H Q _=>∃ (a:Int)(r:Addr)(l:List Int),vs=[.int a,.ref r]∧SqL K H r (l.map V.int)∧Q (.int (Vl.Dv a l)) H
theorem zCl (T:Txt K mg C_HubError C_NoTurn C_NoFit C_TooWide C_NoRing C_NoHole C_NoWheel C_NoNumber C_NoQuotient C_NoText C_NoName C_NoRow t_MOST_HOLES t_LEAD_BITS t_MOST_HOLES_SIDED):Df P w K mg base 2 "divisor_of_all" ["first","others"] (spDofA K):=by
 have D_divisor:=zAk (P:=P) (w:=w) (base:=base) T
 refine T.d_divisor_of_all.ok jS (fun vs H Q E h=>?_) (fun f cdv A outer s H vs Q E hr h=>?_)
 ·obtain⟨_,_,_,rfl,_⟩:=h;rfl
 obtain⟨a,r,l,rfl,hl,q⟩:=h
 have nd:=jS.nd
 refine⟨_,(zE (zL (i:=2) nd rfl (Or.inl rfl) (zQ zBw (by rfl) T.b_abs L2.bi_abs (zB (pv 0) zF))) (zE (j7 PassesOwn.never rfl (jP (pv 1)) (vA (i:=3) nd rfl (Or.inl rfl)) (zI (zL (i:=2) nd rfl (Or.inl rfl) (zR D_divisor (hr.mono (by decide)) (by rfl) (zB (pv 2) (zB (pv 3) zF)))))) (zI (zV (pv 2))))),?_⟩
 refine⟨_,rfl,_,rfl,?_⟩
 refine⟨_,rfl,r,rfl,⟨_,hl⟩,?_⟩
 refine zAg (xs:=l.map V.int) (fun i σ H2=>H2=H∧∃ o:Option V,σ=[some (.int a),some (.ref r),some (.int (Vl.Dg (Eh.ab a) (l.take i))),o]) ⟨rfl,none,rfl⟩ (fun i σ H2 _ z=>by rw[z.1];exact hl) ?_ ?_
 ·rintro i x σ H2 hx ⟨rfl,o,rfl⟩
  obtain⟨u,rfl,hu⟩:=int_at hx
  refine⟨_,rfl,_,rfl,_,_,rfl,rfl,some (.int u),?_⟩
  rw[Pt.take_snoc hu,Vl.Dg_snoc];rfl
 ·rintro σ H2 ⟨rfl,o,rfl⟩
  rw[List.length_map,List.take_length]
  exact⟨_,rfl,q⟩
def spValue (K:PySem.W.Frag):Sp:=fun vs H Q _=>∃ (r:Addr)(a:List Int)(n B C:Nat)(b:Int),vs=[.ref r,.int b]∧(SqL K H r (a.map V.int)∨SqT K H r (a.map V.int))∧a.length=n∧1≤n∧n≤420∧b≠0∧b.natAbs < 2^C∧C≤9000∧Ld.Bd (2^B) a ∧
 ∀ t H' (m:Nat) ws c,zP H H'→H t=none→vU H' t m ws c→Vl.Tp n (Ld.at' a) b m ws c→Ld.Bd (2^(8+B)) ws→Q (.ref t) H'
theorem ok_value (T:Txt K mg C_HubError C_NoTurn C_NoFit C_TooWide C_NoRing C_NoHole C_NoWheel C_NoNumber C_NoQuotient C_NoText C_NoName C_NoRow t_MOST_HOLES t_LEAD_BITS t_MOST_HOLES_SIDED):Df P w K mg base 6 "value" ["load","bottom"] (spValue K):=by
 have D_rest:=ok_rest (P:=P) (w:=w) (base:=base) T
 have D_divisor_of_all:=zCl (P:=P) (w:=w) (base:=base) T
 refine T.d_value.ok sc_value (fun vs H Q E h=>?_) (fun f cdv A outer s H vs Q E hr h=>?_)
 ·obtain⟨_,_,_,_,_,_,rfl,_⟩:=h;rfl
 obtain⟨r,a,n,B,C,β,rfl,ha,la,n1,n2,β0,βC,C9,bd,q⟩:=h
 have nd:=sc_value.nd
 refine⟨_,(zE (wM (zS zDw (pv 1) zG (zZ _)) (zI jW) vB) (zE (zL (i:=2) nd rfl (Or.inl rfl) (vE zX (zR D_rest (hr.mono (by decide)) (by rfl) (zB (pv 0) zF)) zG (fun _ _=>rfl))) (zE (zL (i:=3) nd rfl (Or.inl rfl) (zQ zU (by rfl) T.b_len L2.wW (zB (pv 2) zF))) (zE (zL (i:=4) nd rfl (Or.inl rfl) (zR D_divisor_of_all (hr.mono (by decide)) (by rfl) (zB (pv 3) (zB (vO (cap:=[]) (tgs:=["hole","weight"])  rfl rfl rfl (by decide +kernel) (by decide +kernel) (jD (by rfl)) jG jB (zBi (by decide) (by decide)) (pi_enum (by rfl) T.b_enumerate (zB (pv 2) zF)) (fun C s H fp=>⟨(zFl rfl (wF (vA (i:=0) (show (["hole","weight"]:List Str).Nodup by decide +kernel) rfl (Or.inl rfl) (Or.inr rfl)) (wF (vA (i:=1) (show (["hole","weight"]:List Str).Nodup by decide +kernel) rfl (Or.inl rfl) (Or.inr rfl)) zCm))),(pts_one (zS zDh (pv 1) zG (zZ _))),(pv 0)⟩)) zF)))) (zE (zL (i:=5) nd rfl (Or.inl rfl) (pe_sliceZ (K:=K) rfl (pv 2) (po_some (pv 4)))) (zE (zL (i:=6) nd rfl (Or.inr rfl) (zR D_divisor_of_all (hr.mono (by decide)) (by rfl) (zB (pv 1) (zB (pv 5) zF)))) (pss_mid (wM (zS op_lt (pv 1) zG (zZ _)) (zI (zL (i:=6) nd rfl (Or.inr rfl) (pe_un un_neg (pv 6)))) vB) (zI (zV (jL (zB (zO vT (pv 3) (pv 4)) (zB (zBk call_tuple_of (by rfl) T.b_tuple L2.bi_tuple (zB (vO (cap:=[("by",6)]) (tgs:=["weight"])  rfl rfl rfl (by decide +kernel) (by decide +kernel) (jD (by rfl)) (jK rfl jG) (jI ⟨rfl,Or.inl rfl,Or.inl rfl,_,rfl⟩ jB) (vW (by decide)) (jP (pv 5)) (fun C s H fp=>⟨(vA (i:=1) (show (["by","weight"]:List Str).Nodup by decide +kernel) rfl (Or.inl rfl) (Or.inr rfl)),zBj,(zO op_fdivE (pv 1) (pv 0))⟩)) zF)) (zB (zO op_fdivE (pv 1) (pv 6)) zF))))))))))))),?_⟩
 refine⟨_,rfl,rfl,_,rfl,?_⟩
 refine zAl (fun c=>absurd (vint c) β0) (fun c=>?_)
 refine⟨_,rfl,r,a,n,rfl,ha,la,n1,n2,fun tA leA roA HA bA psA lA rowsA smA ftA flA frA htA hbA lbA ldsA bvA _ _=>⟨tA,_,_,_,rfl,rfl,SqT.of htA,(show atI [V.ref leA,V.ref roA] 0=some (.ref leA) from rfl),?_⟩⟩
 have bv':∀ x,Ld.at' bA x=Vl.rst n (Ld.at' a) x:=fun x=>by rw[Vl.w9 ldsA];exact bvA x
 obtain⟨s0,m,es,s1,m1,en,dn,tl⟩:=Vl.told n1 la lbA bv' β0
 have sn:s0≤n:=by rw[en];exact Nat.le_mul_of_pos_left _ m1
 refine⟨_,rfl,leA,_,rfl,.inl (SqL.of hbA),?_⟩
 rw[mlen lbA]
 refine⟨_,rfl,_,rfl,leA,rfl,⟨_,SqL.of hbA⟩,?_⟩
 refine comp_enum (K:=K) (xs:=bA.map V.int) (fun i ys H2=>zP HA H2∧ys=(Vl.hs bA i).map V.int) ⟨zP.refl _,rfl⟩ (fun i ys H2 _ z=>z.1.seq (SqL.of hbA))
  (fun i ys H2 hi z=>by rw[z.2,List.length_map];have:=Vl.hs_len bA i;rw[List.length_map] at hi;exact zAm (by omega)) ?_ ?_
 ·rintro i x ys H2 p hx ⟨sm,rfl⟩ hp
  obtain⟨u,rfl,hu⟩:=int_at hx
  have eu:Ld.at' bA i=u:=Ld.at_nat hu
  refine⟨p,_,rfl,SqT.of zH,rfl,_,_,rfl,_,_,rfl,rfl,?_⟩
  refine⟨_,rfl,rfl,_,rfl,?_⟩
  refine zAl (fun c=>?_) (fun c=>?_)
  ·refine⟨_,rfl,zM sm hp,?_⟩
   rw[Vl.hs_succ,eu,if_neg (vne c),List.map_append];rfl
  ·refine⟨zM sm hp,?_⟩
   rw[Vl.hs_succ,eu,if_pos (nvne c),List.append_nil]
 rintro ys H2 ⟨sm2,rfl⟩ dd hdd
 rw[mlen lbA]
 refine⟨_,dd,_,rfl,SqL.of zH,?_⟩
 rw[es]
 have smB:zP HA (upd H2 dd (.lst ((Vl.hs bA n).map V.int))):=zM sm2 hdd
 generalize upd H2 dd (.lst ((Vl.hs bA n).map V.int))=HB at smB ⊢
 refine⟨_,rfl,_,rfl,_,rfl,leA,bA,n,m,s0,rfl,rfl,SqL.of (smB _ _ hbA),lbA,s1,m1,en,fun wq hwq=>?_⟩
 have eW:((List.range m).map fun (t:Nat)=>Ld.at' bA (((0:Nat):Int)+(t:Int)*s0))=Vl.wts bA m s0:=rfl
 rw[eW]
 have smC:zP HA (upd HB wq (.lst ((Vl.wts bA m s0).map V.int))):=zM smB hwq
 have hwC:upd HB wq (.lst ((Vl.wts bA m s0).map V.int)) wq=some (.lst ((Vl.wts bA m s0).map V.int)):=zH
 refine⟨_,rfl,_,rfl,β,wq,Vl.wts bA m s0,rfl,SqL.of hwC,?_⟩
 generalize upd HB wq (.lst ((Vl.wts bA m s0).map V.int))=HC at smC hwC ⊢
 obtain⟨hh,eh⟩:∃ h:Int,h=if β < 0 then -Vl.Dv β (Vl.wts bA m s0) else Vl.Dv β (Vl.wts bA m s0):=⟨_,rfl⟩
 obtain⟨h0,hβ,hw,hle,tp⟩:=tl hh eh
 refine⟨fun σ H'=>H'=HC∧σ=[some (.ref r),some (.int β),some (.ref leA),some (.int n),some (.int s0),some (.ref wq),some (.int hh)],?_,?_⟩
 ·refine⟨_,rfl,_,_,rfl,rfl,_,rfl,?_⟩
  refine zAl (fun c=>?_) (fun c=>?_)
  ·refine⟨_,rfl,_,rfl,rfl,?_⟩
   rw[eh,if_pos (dec c)];rfl
  ·refine⟨rfl,?_⟩
   rw[eh,if_neg (ndec c)];rfl
 rintro σ H' ⟨rfl,rfl⟩
 refine⟨_,rfl,_,rfl,_,_,rfl,rfl,vK (by omega) (by omega),?_⟩
 dsimp only
 rw[dn]
 refine⟨_,rfl,wq,rfl,⟨_,SqL.of hwC⟩,?_⟩
 refine zEh (K:=K) (xs:=(Vl.wts bA m s0).map V.int) (fun i ys H2=>H2=H'∧ys=(((Vl.wts bA m s0).map (· / hh)).take i).map V.int) ⟨rfl,by simp⟩ (fun i ys H2 _ z=>by rw[z.1];exact SqL.of hwC)
  (fun i ys H2 hi z=>by rw[z.2];simp only [List.length_map,List.length_take,Vl.zCo] at hi ⊢;have:m≤n:=(by rw[en];exact Nat.le_mul_of_pos_right _ s1);exact zAm (by omega)) ?_ ?_
 ·rintro i x ys H2 hx ⟨rfl,rfl⟩
  obtain⟨u,rfl,hu⟩:=int_at hx
  refine⟨_,rfl,_,rfl,_,_,rfl,rfl,divE_of h0 (hw _ (List.mem_of_getElem? hu)) (Nat.lt_of_le_of_lt hle βC) C9,rfl,?_⟩
  rw[wX (v:=u/hh)]
  rw[List.getElem?_map,hu];rfl
 rintro ys H2 ⟨rfl,rfl⟩ dt hdt
 rw[jJ (by simp)]
 refine⟨dt,_,rfl,.inl ⟨SqL.of zH,fun u hu=>?_⟩⟩
 have smD:zP H2 (upd (upd H2 dt (.lst (((Vl.wts bA m s0).map (· / hh)).map V.int))) u (.tup (((Vl.wts bA m s0).map (· / hh)).map V.int))):=zM (zM (zP.refl _) hdt) hu
 have huD:upd (upd H2 dt (.lst (((Vl.wts bA m s0).map (· / hh)).map V.int))) u (.tup (((Vl.wts bA m s0).map (· / hh)).map V.int)) u=some (.tup (((Vl.wts bA m s0).map (· / hh)).map V.int)):=zH
 generalize upd (upd H2 dt (.lst (((Vl.wts bA m s0).map (· / hh)).map V.int))) u (.tup (((Vl.wts bA m s0).map (· / hh)).map V.int))=HD at smD huD ⊢
 refine⟨_,rfl,_,rfl,_,_,rfl,rfl,divE_of h0 hβ (Nat.lt_of_le_of_lt hle βC) C9,(by show 3≤sizeLine;decide),fun t ht=>?_⟩
 have smE:=(smA.trans smC).trans smD
 exact q t _ m _ _ (zM smE ht) (smE.free ht) ⟨u,zH,(zK (zJ huD ht)).trans huD⟩ tp (Vl.told_bd ldsA n2 bd bvA hh)
def spFit (K:PySem.W.Frag):Sp:=fun vs H Q _=>∃ (a b:Addr)(xs ys:List V),vs=[.ref a,.ref b]∧SqL K H a xs∧SqL K H b ys∧xs.length=ys.length∧Q .non H
theorem ok_check_fit (T:Txt K mg C_HubError C_NoTurn C_NoFit C_TooWide C_NoRing C_NoHole C_NoWheel C_NoNumber C_NoQuotient C_NoText C_NoName C_NoRow t_MOST_HOLES t_LEAD_BITS t_MOST_HOLES_SIDED):Df P w K mg base 1 "check_fit" ["one","other"] (spFit K):=by
 refine T.d_check_fit.ok zDf (fun vs H Q E h=>?_) (fun f cdv A outer s H vs Q E hr h=>?_)
 ·obtain⟨_,_,_,_,rfl,_⟩:=h;rfl
 obtain⟨a,b,xs,ys,rfl,ha,hb,e,q⟩:=h
 have nd:=zDf.nd
 refine⟨_,(zI (wM (zS zDh (zQ zU (by rfl) T.b_len L2.wW (zB (pv 0) zF)) (zQ zU (by rfl) T.b_len L2.wW (zB (pv 1) zF)) (zZ _)) (zI jW) vB)),?_⟩
 refine⟨_,rfl,a,_,rfl,.inl ha,_,rfl,b,_,rfl,.inl hb,rfl,_,rfl,?_⟩
 refine zAl (fun c=>?_) (fun c=>q)
 exact vne c (by rw[e])
def spPlus (K:PySem.W.Frag):Sp:=fun vs H Q _=>∃ (r s:Addr)(a b:List Int),vs=[.ref r,.ref s]∧SqL K H r (a.map V.int)∧SqL K H s (b.map V.int)∧a.length=b.length∧a.length≤420∧∀ t H',zP H H'→H t=none→H' t=some (.lst ((Ld.plus a b).map V.int))→Q (.ref t) H'
theorem ok_plus (T:Txt K mg C_HubError C_NoTurn C_NoFit C_TooWide C_NoRing C_NoHole C_NoWheel C_NoNumber C_NoQuotient C_NoText C_NoName C_NoRow t_MOST_HOLES t_LEAD_BITS t_MOST_HOLES_SIDED):Df P w K mg base 2 "plus" ["one","other"] (spPlus K):=by
 have D_check_fit:=ok_check_fit (P:=P) (w:=w) (base:=base) T
 refine T.d_plus.ok sc_plus (fun vs H Q E h=>?_) (fun f cdv A outer s H vs Q E hr h=>?_)
 ·obtain⟨_,_,_,_,rfl,_⟩:=h;rfl
 obtain⟨r,s',a,b,rfl,ha,hb,e,hz,q⟩:=h
 have nd:=sc_plus.nd
 refine⟨_,(zE (jF (zR D_check_fit (hr.mono (by decide)) (by rfl) (zB (pv 0) (zB (pv 1) zF)))) (zI (zV (vO (cap:=[]) (tgs:=["weight","more"])  rfl rfl rfl (by decide +kernel) (by decide +kernel) (jD (by rfl)) jG jB (zBi (by decide) (by decide)) (pi_zip (by rfl) T.b_zip (zB (pv 0) (zB (pv 1) zF))) (fun C s H fp=>⟨(zFl rfl (wF (vA (i:=0) (show (["weight","more"]:List Str).Nodup by decide +kernel) rfl (Or.inl rfl) (Or.inr rfl)) (wF (vA (i:=1) (show (["weight","more"]:List Str).Nodup by decide +kernel) rfl (Or.inl rfl) (Or.inr rfl)) zCm))),zBj,(zO wE (pv 0) (pv 1))⟩))))),?_⟩
 refine⟨_,rfl,_,rfl,r,s',_,_,rfl,ha,hb,by rw[List.length_map,List.length_map,e],?_⟩
 refine⟨_,rfl,_,rfl,r,s',rfl,⟨_,ha⟩,⟨_,hb⟩,?_⟩
 have pl:=Ld.jM e
 refine comp_zip (K:=K) (xs:=a.map V.int) (ys:=b.map V.int) (by rw[List.length_map,List.length_map,e]) (fun i rs H2=>zP H H2∧rs=((Ld.plus a b).take i).map V.int) ⟨zP.refl H,by simp⟩ (fun i rs H2 _ z=>⟨z.1.seq ha,z.1.seq hb⟩)
  (fun i rs H2 hi z=>by rw[List.length_map] at hi;rw[z.2];simp only [List.length_map,List.length_take];exact zAm (by omega)) ?_ ?_
 ·rintro i x y rs H2 p hx hy ⟨sm,rfl⟩ hp
  obtain⟨u,rfl,hu⟩:=int_at hx
  obtain⟨v,rfl,hv⟩:=int_at hy
  refine⟨p,_,rfl,SqT.of zH,rfl,_,_,rfl,_,_,rfl,rfl,?_⟩
  refine⟨_,rfl,_,rfl,_,_,rfl,rfl,zM sm hp,?_⟩
  rw[wX (v:=u+v)]
  unfold Ld.plus
  rw[List.getElem?_zipWith,hu,hv]
 ·rintro rs H2 ⟨sm,rfl⟩ D hD
  rw[jJ (by rw[pl,List.length_map])]
  exact q D _ (zM sm hD) (sm.free hD) zH
def spScaled (K:PySem.W.Frag):Sp:=fun vs H Q _=>∃ (r:Addr)(a:List Int)(m:Int),vs=[.ref r,.int m]∧SqL K H r (a.map V.int)∧a.length≤420∧(∀ x∈a,IntMulOk x m)∧∀ t H',zP H H'→H t=none→H' t=some (.lst ((Ld.scaled a m).map V.int))→Q (.ref t) H'
theorem ok_scaled (T:Txt K mg C_HubError C_NoTurn C_NoFit C_TooWide C_NoRing C_NoHole C_NoWheel C_NoNumber C_NoQuotient C_NoText C_NoName C_NoRow t_MOST_HOLES t_LEAD_BITS t_MOST_HOLES_SIDED):Df P w K mg base 1 "scaled" ["load","many"] (spScaled K):=by
 refine T.d_scaled.ok sc_scaled (fun vs H Q E h=>?_) (fun f cdv A outer s H vs Q E hr h=>?_)
 ·obtain⟨_,_,_,rfl,_⟩:=h;rfl
 obtain⟨r,a,m,rfl,ha,hz,hm,q⟩:=h
 have nd:=sc_scaled.nd
 refine⟨_,(zI (zV (vO (cap:=[("many",1)]) (tgs:=["weight"])  rfl rfl rfl (by decide +kernel) (by decide +kernel) (jD (by rfl)) (jK rfl jG) (jI ⟨rfl,Or.inl rfl,Or.inl rfl,_,rfl⟩ jB) (vW (by decide)) (jP (pv 0)) (fun C s H fp=>⟨(vA (i:=1) (show (["many","weight"]:List Str).Nodup by decide +kernel) rfl (Or.inl rfl) (Or.inr rfl)),zBj,(zO vL (pv 1) (pv 0))⟩)))),?_⟩
 refine⟨_,rfl,r,rfl,⟨_,ha⟩,?_⟩
 refine zEh (K:=K) (xs:=a.map V.int) (fun i rs H2=>H2=H∧rs=((Ld.scaled a m).take i).map V.int) ⟨rfl,by simp⟩ (fun i rs H2 _ z=>by rw[z.1];exact ha)
  (fun i rs H2 hi z=>by rw[List.length_map] at hi;rw[z.2];simp only [List.length_map,List.length_take];exact zAm (by omega)) ?_ ?_
 ·rintro i x rs H2 hx ⟨rfl,rfl⟩
  obtain⟨u,rfl,hu⟩:=int_at hx
  refine⟨_,rfl,_,rfl,_,_,rfl,rfl,hm u (List.mem_of_getElem? hu),rfl,?_⟩
  rw[wX (v:=u*m)]
  unfold Ld.scaled
  rw[List.getElem?_map,hu];rfl
 ·rintro rs H2 ⟨rfl,rfl⟩ D hD
  rw[jJ (by rw[Ld.wH,List.length_map])]
  exact q D _ (zM (zP.refl _) hD) hD zH
def spSkip (K:PySem.W.Frag):Sp:=fun vs H Q _=>∃ (r:Addr)(a:List Int)(m:Nat)(st:Int),vs=[.ref r,.int st]∧SqT K H r (a.map V.int)∧a.length=m∧1≤m∧m≤420∧Eh.G st m=1∧∀ t H' o,zP H H'→H t=none→H' t=some (.lst (o.map V.int))→Ld.Skp m st a o→Q (.ref t) H'
theorem ok_skipped (T:Txt K mg C_HubError C_NoTurn C_NoFit C_TooWide C_NoRing C_NoHole C_NoWheel C_NoNumber C_NoQuotient C_NoText C_NoName C_NoRow t_MOST_HOLES t_LEAD_BITS t_MOST_HOLES_SIDED):Df P w K mg base 2 "skipped" ["load","step"] (spSkip K):=by
 have D_divisor:=zAk (P:=P) (w:=w) (base:=base) T
 refine T.d_skipped.ok zFu (fun vs H Q E h=>?_) (fun f cdv A outer s H vs Q E hr h=>?_)
 ·obtain⟨_,_,_,_,rfl,_⟩:=h;rfl
 obtain⟨r,a,m,st,rfl,ha,la,m1,m2,g,q⟩:=h
 have nd:=zFu.nd
 obtain⟨iv,hiv⟩:=Ld.zCb (by omega) g
 refine⟨_,(zE (zL (i:=2) nd rfl (Or.inl rfl) (zQ zU (by rfl) T.b_len L2.wW (zB (pv 0) zF))) (zE (wM (zS zDh (zR D_divisor (hr.mono (by decide)) (by rfl) (zB (pv 1) (zB (pv 2) zF))) zG (zZ _)) (zI jW) vB) (zE (zL (i:=3) nd rfl (Or.inl rfl) (zO op_rep (zEm (zB zG zF)) (pv 2))) (zE (j7 PassesOwn.never rfl (pi_enumT (by rfl) T.b_enumerate (zB (pv 0) zF)) (zFl rfl (wF (vA (i:=4) nd rfl (Or.inl rfl)) (wF (vA (i:=5) nd rfl (Or.inl rfl)) zCm))) (zI (zFe (pv 5) (zFi (pv 3) (zO vN (zO vL (pv 4) (pv 1)) (pv 2)) set_list)))) (zI (zV (pv 3))))))),?_⟩
 refine⟨_,rfl,r,_,rfl,.inr ha,?_⟩
 rw[mlen la]
 refine⟨_,rfl,_,rfl,st,m,rfl,rfl,_,rfl,?_⟩
 refine zAl (fun c=>(vne c g).elim) (fun c=>?_)
 refine⟨(by show 1≤sizeLine;decide),fun l hl=>⟨_,rfl,l,_,_,rfl,rfl,zH,by omega,by omega,(by show 1*_≤_;exact size2 (by omega)),fun du hdu=>?_⟩⟩
 rw[rep0]
 have ldu:l≠du:=zJ zH hdu
 have du0:H du=none:=by rwa [zK (Ne.symm ldu)] at hdu
 have sm0:zP H (upd (upd H l (.lst [V.int 0])) du (.lst ((List.replicate m (0:Int)).map V.int))):=vC (vC (zP.refl H) hl) du0
 have hd0:upd (upd H l (.lst [V.int 0])) du (.lst ((List.replicate m (0:Int)).map V.int)) du=some (.lst ((List.replicate m (0:Int)).map V.int)):=zH
 generalize upd (upd H l (.lst [V.int 0])) du (.lst ((List.replicate m (0:Int)).map V.int))=H0 at sm0 hd0 ⊢
 refine⟨_,rfl,r,rfl,⟨_,sm0.seqT ha⟩,?_⟩
 refine for_enumT (K:=K) (xs:=a.map V.int) (fun i σ H2=>zP H H2∧∃ (o:List Int)(o1 o2:Option V),σ=[some (.ref r),some (.int st),some (.int m),some (.ref du),o1,o2]∧H2 du=some (.lst (o.map V.int))∧o.length=m∧∀ k:Nat,k < i→Ld.at' o ((k:Int)*st)=Ld.at' a k)
  ⟨sm0,List.replicate m 0,none,none,rfl,hd0,by simp,fun k hk=>by omega⟩ (fun i σ H2 _ z=>z.1.seqT ha) ?_ ?_
 ·rintro i x σ H2 p hx ⟨sm,o,o1,o2,rfl,hd,ol,inv⟩ hp
  obtain⟨u,rfl,hu⟩:=int_at hx
  have eu:Ld.at' a i=u:=Ld.at_nat hu
  have hi:i < m:=by rw[← la];exact (List.getElem?_eq_some_iff.mp hu).1
  refine⟨p,_,rfl,SqT.of zH,rfl,_,_,rfl,_,_,rfl,rfl,?_⟩
  refine⟨_,rfl,_,rfl,_,rfl,_,rfl,_,_,rfl,rfl,vD (by omega) (by omega),_,rfl,_,_,rfl,rfl,by omega,du,_,_,_,rfl,rfl,(zK (zJ hd hp)).trans hd,zEb (mlen ol) (by omega) _,?_⟩
  rw[set_int,← eu]
  exact⟨vC (zM sm hp) du0,_,_,_,rfl,zH,by rw[List.length_set,ol],Ld.fill1 (φ:=fun k=>k*st) ol (by omega) (Ld.inj_skip (by omega) hiv) hi inv⟩
 ·rintro σ H2 ⟨sm,o,o1,o2,rfl,hd,ol,inv⟩
  rw[List.length_map,la] at inv
  exact⟨_,rfl,q du H2 o sm du0 hd (Ld.skp_end (by omega) la ol inv)⟩
def spFiner (K:PySem.W.Frag):Sp:=fun vs H Q _=>∃ (r:Addr)(a:List Int)(m q:Nat),vs=[.ref r,.int q]∧SqT K H r (a.map V.int)∧a.length=m∧1≤m∧1≤q∧q*m≤420∧∀ t H',zP H H'→H t=none→H' t=some (.lst ((Ld.fin a q).map V.int))→Q (.ref t) H'
theorem ok_finer (T:Txt K mg C_HubError C_NoTurn C_NoFit C_TooWide C_NoRing C_NoHole C_NoWheel C_NoNumber C_NoQuotient C_NoText C_NoName C_NoRow t_MOST_HOLES t_LEAD_BITS t_MOST_HOLES_SIDED):Df P w K mg base 1 "finer" ["load","many"] (spFiner K):=by
 refine T.d_finer.ok sc_finer (fun vs H Q E h=>?_) (fun f cdv A outer s H vs Q E hr h=>?_)
 ·obtain⟨_,_,_,_,rfl,_⟩:=h;rfl
 obtain⟨r,a,m,q,rfl,ha,la,m1,q1,N2,k⟩:=h
 have nd:=sc_finer.nd
 have qle:q≤q*m:=Nat.le_mul_of_pos_right _ m1
 obtain⟨N,hN⟩:∃ N,N=q*m:=⟨_,rfl⟩
 have N1:1≤N:=by rw[hN];exact Nat.mul_pos q1 m1
 refine⟨_,(zE (zL (i:=2) nd rfl (Or.inl rfl) (zO vL (pv 1) (zQ zU (by rfl) T.b_len L2.wW (zB (pv 0) zF)))) (zE (wM (zS zEy (pv 2) (vV (v:=.int 420) (by rfl) T.g_MOST_HOLES ⟨_,rfl⟩) (zZ _)) (zI jW) vB) (zE (zL (i:=3) nd rfl (Or.inl rfl) (zO op_rep (zEm (zB zG zF)) (pv 2))) (zE (j7 PassesOwn.never rfl (pi_enumT (by rfl) T.b_enumerate (zB (pv 0) zF)) (zFl rfl (wF (vA (i:=4) nd rfl (Or.inl rfl)) (wF (vA (i:=5) nd rfl (Or.inl rfl)) zCm))) (zI (zFe (pv 5) (zFi (pv 3) (zO vL (pv 1) (pv 4)) set_list)))) (zI (zV (pv 3))))))),?_⟩
 refine⟨_,rfl,_,rfl,r,_,rfl,.inr ha,_,_,rfl,rfl,vD (by omega) (by omega),?_⟩
 dsimp only
 rw[mlen la,← Int.natCast_mul,← hN]
 refine⟨_,rfl,_,_,rfl,rfl,_,rfl,?_⟩
 refine zAl (fun c=>absurd (dec c) (by omega)) (fun c=>?_)
 refine⟨(by show 1≤sizeLine;decide),fun l hl=>⟨_,rfl,l,_,_,rfl,rfl,zH,by omega,by omega,(by show 1*_≤_;exact size2 (by omega)),fun du hdu=>?_⟩⟩
 rw[rep0]
 have ldu:l≠du:=zJ zH hdu
 have du0:H du=none:=by rwa [zK (Ne.symm ldu)] at hdu
 have sm0:zP H (upd (upd H l (.lst [V.int 0])) du (.lst ((List.replicate N (0:Int)).map V.int))):=vC (vC (zP.refl H) hl) du0
 have hd0:upd (upd H l (.lst [V.int 0])) du (.lst ((List.replicate N (0:Int)).map V.int)) du=some (.lst ((List.replicate N (0:Int)).map V.int)):=zH
 generalize upd (upd H l (.lst [V.int 0])) du (.lst ((List.replicate N (0:Int)).map V.int))=H0 at sm0 hd0 ⊢
 refine⟨_,rfl,r,rfl,⟨_,sm0.seqT ha⟩,?_⟩
 refine for_enumT (K:=K) (xs:=a.map V.int) (fun i σ H2=>zP H H2∧∃ (o:List Int)(o1 o2:Option V),σ=[some (.ref r),some (.int q),some (.int N),some (.ref du),o1,o2]∧H2 du=some (.lst (o.map V.int))∧o.length=N∧(∀ k:Nat,k < i→Ld.at' o ((q:Int)*k)=Ld.at' a k)∧(∀ x:Int,(∀ k:Nat,k < i→x%N≠q*k)→Ld.at' o x=0))
  ⟨sm0,List.replicate N 0,none,none,rfl,hd0,by simp,fun k hk=>by omega,fun x _=>Ld.at_rep N x⟩ (fun i σ H2 _ z=>z.1.seqT ha) ?_ ?_
 ·rintro i x σ H2 p hx ⟨sm,o,o1,o2,rfl,hd,ol,inv1,inv2⟩ hp
  obtain⟨u,rfl,hu⟩:=int_at hx
  have eu:Ld.at' a i=u:=Ld.at_nat hu
  have hi:i < m:=by rw[← la];exact (List.getElem?_eq_some_iff.mp hu).1
  have qi:((q:Int)*i)%N=q*i:=by
   refine Int.emod_eq_of_lt (Int.mul_nonneg (by omega) (by omega)) ?_
   rw[hN,Int.natCast_mul]
   exact Int.mul_lt_mul_of_pos_left (by omega) (by omega)
  refine⟨p,_,rfl,SqT.of zH,rfl,_,_,rfl,_,_,rfl,rfl,?_⟩
  refine⟨_,rfl,_,rfl,_,rfl,_,rfl,_,_,rfl,rfl,vD (by omega) (by omega),du,_,_,_,rfl,rfl,(zK (zJ hd hp)).trans hd,ixN_modE (mlen ol) N1 qi,?_⟩
  rw[set_int,← eu]
  have ff:=Ld.ffill1 ol hN q1 hi inv1 inv2
  exact⟨vC (zM sm hp) du0,_,_,_,rfl,zH,by rw[List.length_set,ol],ff.1,ff.2⟩
 ·rintro σ H2 ⟨sm,o,o1,o2,rfl,hd,ol,inv1,inv2⟩
  rw[List.length_map,la] at inv1 inv2
  subst hN
  rw[Ld.ffill_end la m1 q1 ol inv1 inv2] at hd
  exact⟨_,rfl,k du H2 sm du0 hd⟩
def spJoint:Sp:=fun vs H Q _=>∃ m m':Nat,vs=[.int m,.int m']∧1≤m∧1≤m'∧m≤420∧m'≤420∧Q (.int (Nat.lcm m m':Nat)) H
theorem ok_joint (T:Txt K mg C_HubError C_NoTurn C_NoFit C_TooWide C_NoRing C_NoHole C_NoWheel C_NoNumber C_NoQuotient C_NoText C_NoName C_NoRow t_MOST_HOLES t_LEAD_BITS t_MOST_HOLES_SIDED):Df P w K mg base 2 "joint" ["one","other"] spJoint:=by
 have D_divisor:=zAk (P:=P) (w:=w) (base:=base) T
 refine T.d_joint.ok sc_joint (fun vs H Q E h=>?_) (fun f cdv A outer s H vs Q E hr h=>?_)
 ·obtain⟨_,_,rfl,_⟩:=h;rfl
 obtain⟨m,m',rfl,m1,m1',m2,m2',q⟩:=h
 have nd:=sc_joint.nd
 have g0:0 < Eh.G m m':=by unfold Eh.G;have:0 < Int.gcd (m:Int) m':=Nat.gcd_pos_of_pos_left _ m1;omega
 have g1:Eh.G m m'≤m:=Int.le_of_dvd (by omega) (Int.gcd_dvd_left ..)
 have d0:=Int.ediv_nonneg (show (0:Int)≤m by omega) (show 0≤Eh.G m m' by omega)
 have d1:=Int.ediv_le_self (Eh.G m m') (show (0:Int)≤m by omega)
 refine⟨_,(zI (zV (zO vL (zO vT (pv 0) (zR D_divisor (hr.mono (by decide)) (by rfl) (zB (pv 0) (zB (pv 1) zF)))) (pv 1)))),?_⟩
 refine⟨_,rfl,_,rfl,_,rfl,_,_,rfl,_,_,rfl,rfl,vK g0 (by omega),_,rfl,_,_,rfl,rfl,vD (by omega) (by omega),?_⟩
 show Q (.int ((m:Int)/Eh.G m m'*m')) H
 rw[Vl.joint_eq]
 exact q
def spJW:Sp:=fun vs H Q _=>∃ (t t':Addr)(m m':Nat)(ws ws':List Int)(c c':Int),vs=[.ref t,.ref t']∧vU H t m ws c∧vU H t' m' ws' c'∧1≤m∧1≤m'∧m≤420∧m'≤420∧Nat.lcm m m'≤420∧Q (.int (Nat.lcm m m':Nat)) H
theorem zEt (T:Txt K mg C_HubError C_NoTurn C_NoFit C_TooWide C_NoRing C_NoHole C_NoWheel C_NoNumber C_NoQuotient C_NoText C_NoName C_NoRow t_MOST_HOLES t_LEAD_BITS t_MOST_HOLES_SIDED):Df P w K mg base 3 "joint_wheel" ["x","y"] spJW:=by
 have D_joint:=ok_joint (P:=P) (w:=w) (base:=base) T
 refine T.d_joint_wheel.ok zAw (fun vs H Q E h=>?_) (fun f cdv A outer s H vs Q E hr h=>?_)
 ·obtain⟨_,_,_,_,_,_,_,_,rfl,_⟩:=h;rfl
 obtain⟨t,t',m,m',ws,ws',c,c',rfl,⟨u,ht,hu⟩,⟨u',ht',hu'⟩,m1,m1',m2,m2',l2,q⟩:=h
 have nd:=zAw.nd
 refine⟨_,(zE (zL (i:=2) nd rfl (Or.inl rfl) (zR D_joint (hr.mono (by decide)) (by rfl) (zB (vE zX (pv 0) zG (fun _ _=>rfl)) (zB (vE zX (pv 1) zG (fun _ _=>rfl)) zF)))) (zE (wM (zS zEy (pv 2) (vV (v:=.int 420) (by rfl) T.g_MOST_HOLES ⟨_,rfl⟩) (zZ _)) (zI jW) vB) (zI (zV (pv 2))))),?_⟩
 refine⟨_,rfl,t,_,_,_,rfl,rfl,SqT.of ht,zDv _ _ _,_,rfl,t',_,_,_,rfl,rfl,SqT.of ht',zDv _ _ _,m,m',rfl,m1,m1',m2,m2',?_⟩
 refine⟨_,rfl,_,_,rfl,rfl,_,rfl,?_⟩
 refine zAl (fun c=>absurd (dec c) (by omega)) (fun c=>?_)
 exact⟨_,rfl,q⟩
def spOn:Sp:=fun vs H Q _=>∃ (t:Addr)(m q:Nat)(ws:List Int)(c:Int),vs=[.ref t,.int ((q*m:Nat):Int)]∧vU H t m ws c∧ws.length=m∧1≤m∧1≤q∧q*m≤420∧∀ r H',zP H H'→H r=none→H' r=some (.lst ((Ld.fin ws q).map V.int))→Q (.ref r) H'
theorem ok_on (T:Txt K mg C_HubError C_NoTurn C_NoFit C_TooWide C_NoRing C_NoHole C_NoWheel C_NoNumber C_NoQuotient C_NoText C_NoName C_NoRow t_MOST_HOLES t_LEAD_BITS t_MOST_HOLES_SIDED):Df P w K mg base 2 "on" ["x","n"] spOn:=by
 have D_finer:=ok_finer (P:=P) (w:=w) (base:=base) T
 refine T.d_on.ok sc_on (fun vs H Q E h=>?_) (fun f cdv A outer s H vs Q E hr h=>?_)
 ·obtain⟨_,_,_,_,_,rfl,_⟩:=h;rfl
 obtain⟨t,m,q,ws,cc,rfl,⟨u,ht,hu⟩,lw,m1,q1,N2,k⟩:=h
 have nd:=sc_on.nd
 have mle:=Nat.le_mul_of_pos_left m q1
 have dq:((q*m:Nat):Int)/(m:Int)=q:=by rw[Int.natCast_mul];exact Int.mul_ediv_cancel _ (by omega)
 have dm:((q*m:Nat):Int)%(m:Int)=0:=by rw[Int.natCast_mul];exact Int.mul_emod_left _ _
 refine⟨_,(zE (wM (zS zDh (zO vN (pv 1) (vE zX (pv 0) zG (fun _ _=>rfl))) zG (zZ _)) (zI jW) vB) (zI (zV (zR D_finer (hr.mono (by decide)) (by rfl) (zB (vE zX (pv 0) zG (fun _ _=>rfl)) (zB (zO vT (pv 1) (vE zX (pv 0) zG (fun _ _=>rfl))) zF)))))),?_⟩
 refine⟨_,rfl,_,rfl,t,_,_,_,rfl,rfl,SqT.of ht,zDv _ _ _,_,_,rfl,rfl,(show (0:Int) < (m:Int) by omega),rfl,_,rfl,iteNS (congrArg V.int dm) ?_⟩
 refine⟨_,rfl,t,_,_,_,rfl,rfl,SqT.of ht,at3_1 _ _ _,_,rfl,_,rfl,t,_,_,_,rfl,rfl,SqT.of ht,zDv _ _ _,_,_,rfl,rfl,vK (by omega) (by omega),?_⟩
 dsimp only
 rw[dq]
 exact⟨u,ws,m,q,rfl,SqT.of hu,lw,m1,q1,N2,k⟩
def spRaised:Sp:=fun vs H Q _=>∃ (t t':Addr)(m q B C:Nat)(m':Int)(ws ws':List Int)(c c':Int),vs=[.ref t,.ref t',.int ((q*m:Nat):Int)]∧vU H t m ws c∧vU H t' m' ws' c'∧ws.length=m∧1≤m∧1≤q∧q*m≤420∧Ld.Bd (2^B) ws∧c'.natAbs≤2^C∧B+C≤1000000 ∧
 ∀ r H',zP H H'→H r=none→H' r=some (.lst ((Ld.scaled (Ld.fin ws q) c').map V.int))→Q (.ref r) H'
theorem ok_raised (T:Txt K mg C_HubError C_NoTurn C_NoFit C_TooWide C_NoRing C_NoHole C_NoWheel C_NoNumber C_NoQuotient C_NoText C_NoName C_NoRow t_MOST_HOLES t_LEAD_BITS t_MOST_HOLES_SIDED):Df P w K mg base 3 "raised" ["x","y","n"] spRaised:=by
 have D_on:=ok_on (P:=P) (w:=w) (base:=base) T
 have D_scaled:=ok_scaled (P:=P) (w:=w) (base:=base) T
 refine T.d_raised.ok sc_raised (fun vs H Q E h=>?_) (fun f cdv A outer s H vs Q E hr h=>?_)
 ·obtain⟨_,_,_,_,_,_,_,_,_,_,_,rfl,_⟩:=h;rfl
 obtain⟨t,t',m,q,B,C,m',ws,ws',c,c',rfl,vt,vt',lw,m1,q1,N2,bw,bc,BC,k⟩:=h
 have nd:=sc_raised.nd
 refine⟨_,(zI (zV (zR D_scaled (hr.mono (by decide)) (by rfl) (zB (zR D_on (hr.mono (by decide)) (by rfl) (zB (pv 0) (zB (pv 2) zF))) (zB (vE zX (pv 1) zG (fun _ _=>rfl)) zF))))),?_⟩
 refine⟨_,rfl,_,rfl,t,m,q,ws,c,rfl,vt,lw,m1,q1,N2,fun r1 H1 sm1 f1 h1=>?_⟩
 obtain⟨u',ht',hu'⟩:=vt'.same sm1
 have bf:Ld.Bd (2^B) (Ld.fin ws q):=Ld.bd_fin bw (by rw[lw];exact m1) q1
 have lf:(Ld.fin ws q).length=q*m:=by rw[Ld.j6,lw]
 refine⟨_,rfl,t',_,_,_,rfl,rfl,SqT.of ht',at3_2 _ _ _,r1,_,_,rfl,SqL.of h1,by rw[lf];exact N2,fun x hx=>mulB (bf x hx) bc BC,fun r2 H2 sm2 f2 h2=>?_⟩
 exact k r2 H2 (sm1.trans sm2) (sm1.free f2) h2
def spAdded:Sp:=fun vs H Q _=>∃ (t t':Addr)(J m m' B C:Nat)(ws ws':List Int)(c c':Int)(f g:Int→Int)(b d:Int),vs=[.ref t,.ref t']∧vU H t m ws c∧vU H t' m' ws' c'∧Vl.Tp J f b m ws c∧Vl.Tp J g d m' ws' c'∧1≤J∧J≤420∧b≠0∧d≠0∧Ld.Bd (2^B) ws∧Ld.Bd (2^B) ws'∧c.natAbs < 2^C∧c'.natAbs < 2^C∧B+C≤1000000∧C+C≤9000 ∧
 ∀ r H' (M:Nat) W D,zP H H'→H r=none→vU H' r M W D→Vl.Tp J (fun x=>d*f x+b*g x) (b*d) M W D→Ld.Bd (2^(8+(B+C+1))) W→D.natAbs < 2^(C+C)→Vl.Tp (Nat.lcm m m') (Ld.at' (Ld.plus (Ld.scaled (Ld.fin ws (Nat.lcm m m'/m)) c') (Ld.scaled (Ld.fin ws' (Nat.lcm m m'/m')) c))) (c*c') M W D→Q (.ref r) H'
theorem ok_added (T:Txt K mg C_HubError C_NoTurn C_NoFit C_TooWide C_NoRing C_NoHole C_NoWheel C_NoNumber C_NoQuotient C_NoText C_NoName C_NoRow t_MOST_HOLES t_LEAD_BITS t_MOST_HOLES_SIDED):Df P w K mg base 7 "added" ["x","y"] spAdded:=by
 have D_joint_wheel:=zEt (P:=P) (w:=w) (base:=base) T
 have D_raised:=ok_raised (P:=P) (w:=w) (base:=base) T
 have D_plus:=ok_plus (P:=P) (w:=w) (base:=base) T
 have D_value:=ok_value (P:=P) (w:=w) (base:=base) T
 refine T.d_added.ok sc_added (fun vs H Q E h=>?_) (fun f cdv A outer s H vs Q E hr h=>?_)
 ·obtain⟨_,_,_,_,_,_,_,_,_,_,_,_,_,_,_,rfl,_⟩:=h;rfl
 obtain⟨t,t',J,m,m',B,C,ws,ws',c,c',f',g',b,d,rfl,vt,vt',tp,tp',J1,J2,b0,d0,bw,bw',cC,cC',BC,CC,k⟩:=h
 have nd:=sc_added.nd
 obtain⟨l,p,q,q',el0,l1,p1,q1,q1',el,el',eJ⟩:=Vl.lcm_of J1 tp.mn tp'.mn
 have l2:l≤420:=Nat.le_trans (by rw[eJ];exact Nat.le_mul_of_pos_left l p1) J2
 have m1:=tp.pln.n1
 have m1':=tp'.pln.n1
 have c1:=tp.pln.c1
 have c1':=tp'.pln.c1
 have ml:m≤l:=by rw[el];exact Nat.le_mul_of_pos_left m q1
 have ml':m'≤l:=by rw[el'];exact Nat.le_mul_of_pos_left m' q1'
 refine⟨_,(zE (zL (i:=2) nd rfl (Or.inl rfl) (zR D_joint_wheel (hr.mono (by decide)) (by rfl) (zB (pv 0) (zB (pv 1) zF)))) (zI (zV (zR D_value (hr.mono (by decide)) (by rfl) (zB (zR D_plus (hr.mono (by decide)) (by rfl) (zB (zR D_raised (hr.mono (by decide)) (by rfl) (zB (pv 0) (zB (pv 1) (zB (pv 2) zF)))) (zB (zR D_raised (hr.mono (by decide)) (by rfl) (zB (pv 1) (zB (pv 0) (zB (pv 2) zF)))) zF))) (zB (zO vL (vE zX (pv 0) zG (fun _ _=>rfl)) (vE zX (pv 1) zG (fun _ _=>rfl))) zF)))))),?_⟩
 refine⟨_,rfl,_,rfl,t,t',m,m',ws,ws',c,c',rfl,vt,vt',m1,m1',by omega,by omega,by omega,?_⟩
 rw[el0]
 refine⟨_,rfl,_,rfl,_,rfl,t,t',m,q,B,C,m',ws,ws',c,c',by rw[← el];rfl,vt,vt',tp.len,m1,q1,by omega,bw,Nat.le_of_lt cC',BC,fun r1 H1 sm1 f1 h1=>?_⟩
 refine⟨_,rfl,_,rfl,_,rfl,t',t,m',q',B,C,m,ws',ws,c',c,by rw[← el'];rfl,vt'.same sm1,vt.same sm1,tp'.len,m1',q1',by omega,bw',Nat.le_of_lt cC,BC,fun r2 H2 sm2 f2 h2=>?_⟩
 have lf:(Ld.scaled (Ld.fin ws q) c').length=l:=by rw[Ld.wH,Ld.j6,tp.len,el]
 have lf':(Ld.scaled (Ld.fin ws' q') c).length=l:=by rw[Ld.wH,Ld.j6,tp'.len,el']
 refine⟨r1,r2,_,_,rfl,SqL.of (sm2 _ _ h1),SqL.of h2,by rw[lf,lf'],by rw[lf];exact l2,fun r3 H3 sm3 f3 h3=>?_⟩
 have sm13:=(sm1.trans sm2).trans sm3
 obtain⟨u,ht,hu⟩:=vt.same sm13
 obtain⟨u',ht',hu'⟩:=vt'.same sm13
 have bp:Ld.Bd (2^(B+C+1)) (Ld.plus (Ld.scaled (Ld.fin ws q) c') (Ld.scaled (Ld.fin ws' q') c)):=Ld.bd_plus' (by rw[lf,lf']) (Ld.zFv (Ld.bd_fin bw (by rw[tp.len];exact m1) q1) (Nat.le_of_lt cC')) (Ld.zFv (Ld.bd_fin bw' (by rw[tp'.len];exact m1') q1') (Nat.le_of_lt cC))
 refine⟨_,rfl,t,_,_,_,rfl,rfl,SqT.of ht,at3_2 _ _ _,_,rfl,t',_,_,_,rfl,rfl,SqT.of ht',at3_2 _ _ _,_,_,rfl,rfl,mulB (Nat.le_of_lt cC) (Nat.le_of_lt cC') (by omega),r3,_,l,B+C+1,C+C,_,rfl,.inl (SqL.of h3),by rw[Ld.jM (by rw[lf,lf']),lf],l1,l2,Vl.mul_ne (by omega) (by omega),Vl.nlt_mul cC cC',CC,bp,fun r4 H4 M W D sm4 f4 v4 t4 b4=>?_⟩
 refine k r4 H4 M W D (sm13.trans sm4) (sm13.free f4) v4 (tp.sum tp' l1 p1 q1 q1' el el' eJ b0 d0 t4) b4 ?_ ?_
 ·have dd:D.natAbs≤(c*c').natAbs:=Nat.le_of_dvd (by have:=Vl.mul_ne (show c≠0 by omega) (show c'≠0 by omega);omega) (Int.natAbs_dvd_natAbs.mpr t4.cb)
  exact Nat.lt_of_le_of_lt dd (Vl.nlt_mul cC cC')
 ·rw[el0,show l/m=q by rw[el];exact Nat.mul_div_cancel _ m1,show l/m'=q' by rw[el'];exact Nat.mul_div_cancel _ m1']
  exact t4
def spWholeV:Sp:=fun vs H Q _=>∃ i:Int,vs=[.int i]∧∀ r H',zP H H'→H r=none→vU H' r 1 [i] 1→Q (.ref r) H'
theorem ok_whole (T:Txt K mg C_HubError C_NoTurn C_NoFit C_TooWide C_NoRing C_NoHole C_NoWheel C_NoNumber C_NoQuotient C_NoText C_NoName C_NoRow t_MOST_HOLES t_LEAD_BITS t_MOST_HOLES_SIDED):Df P w K mg base 1 "whole" ["many"] spWholeV:=by
 refine T.d_whole.ok sc_whole (fun vs H Q E h=>?_) (fun f cdv A outer s H vs Q E hr h=>?_)
 ·obtain⟨_,rfl,_⟩:=h;rfl
 obtain⟨i,rfl,q⟩:=h
 have nd:=sc_whole.nd
 refine⟨_,(zI (zV (jL (zB zG (zB (jL (zB (pv 0) zF)) (zB zG zF)))))),?_⟩
 refine⟨_,rfl,(by show 1≤sizeLine;decide),fun u hu=>⟨(by show 3≤sizeLine;decide),fun t ht=>?_⟩⟩
 have sm:zP H (upd H u (.tup [V.int i])):=zM (zP.refl _) hu
 exact q t _ (zM sm ht) (sm.free ht) ⟨u,zH,(zK (zJ zH ht)).trans zH⟩
def spSide (K:PySem.W.Frag):Sp:=fun vs H Q _=>∃ (t:Addr)(J m B C:Nat)(ws:List Int)(c st v:Int)(f:Int→Int)(b:Int),vs=[.ref t,.int st]∧vU H t m ws c∧Vl.Tp J f b m ws c∧Ld.Per J f∧1≤J∧J≤420∧b≠0∧(st*v)%J=1%J∧Ld.Bd (2^B) ws∧c.natAbs < 2^C∧C≤9000 ∧
 ∀ r H' (M:Nat) W D,zP H H'→H r=none→vU H' r M W D→Vl.Tp J (fun x=>f (x*v)) b M W D→Ld.Bd (2^(8+B)) W→D.natAbs < 2^C→Q (.ref r) H'
theorem ok_side (T:Txt K mg C_HubError C_NoTurn C_NoFit C_TooWide C_NoRing C_NoHole C_NoWheel C_NoNumber C_NoQuotient C_NoText C_NoName C_NoRow t_MOST_HOLES t_LEAD_BITS t_MOST_HOLES_SIDED):Df P w K mg base 7 "side" ["x","step"] (spSide K):=by
 have D_skipped:=ok_skipped (P:=P) (w:=w) (base:=base) T
 have D_value:=ok_value (P:=P) (w:=w) (base:=base) T
 refine T.d_side.ok sc_side (fun vs H Q E h=>?_) (fun f cdv A outer s H vs Q E hr h=>?_)
 ·obtain⟨_,_,_,_,_,_,_,_,_,_,_,rfl,_⟩:=h;rfl
 obtain⟨t,J,m,B,C,ws,c,st,v,f',b,rfl,vt,tp,pf,J1,J2,b0,hv,bw,cC,C9,k⟩:=h
 have nd:=sc_side.nd
 obtain⟨u,ht,hu⟩:=id vt
 have m1:=tp.pln.n1
 have c1:=tp.pln.c1
 have m2:m≤420:=Nat.le_trans (Nat.le_of_dvd (by omega) tp.mn) J2
 have hvm:=Vl.inv_dvd tp.mn hv
 refine⟨_,(zI (zV (zR D_value (hr.mono (by decide)) (by rfl) (zB (zR D_skipped (hr.mono (by decide)) (by rfl) (zB (vE zX (pv 0) zG (fun _ _=>rfl)) (zB (pv 1) zF))) (zB (vE zX (pv 0) zG (fun _ _=>rfl)) zF))))),?_⟩
 refine⟨_,rfl,t,_,_,_,rfl,rfl,SqT.of ht,at3_1 _ _ _,_,rfl,u,ws,m,st,rfl,SqT.of hu,tp.len,m1,m2,Ld.zDj hvm,fun r1 H1 o sm1 f1 h1 sk=>?_⟩
 have ht1:=sm1 _ _ ht
 refine⟨_,rfl,t,_,_,_,rfl,rfl,SqT.of ht1,at3_2 _ _ _,r1,o,m,B,C,c,rfl,.inl (SqL.of h1),sk.lo,m1,m2,by omega,cC,C9,Ld.bd_skp sk hvm bw,fun r2 H2 M W D sm2 f2 v2 t2 b2=>?_⟩
 exact k r2 H2 M W D (sm1.trans sm2) (sm1.free f2) v2 (tp.side pf J1 b0 hv sk.lo (fun x=>sk.val hvm x) t2) b2 (Vl.cb_lt t2 (by omega) cC)
theorem zAy (T:Txt K mg C_HubError C_NoTurn C_NoFit C_TooWide C_NoRing C_NoHole C_NoWheel C_NoNumber C_NoQuotient C_NoText C_NoName C_NoRow t_MOST_HOLES t_LEAD_BITS t_MOST_HOLES_SIDED):Df P w K mg base 1 "_law_divisor" ["one","other"] spDiv:=by
 refine T.d_law_divisor.ok zAu (fun vs H Q E h=>?_) (fun f cdv A outer s H vs Q E hr h=>?_)
 ·obtain⟨_,_,rfl,_⟩:=h;rfl
 obtain⟨a,b,rfl,q⟩:=h
 have nd:=zAu.nd
 refine⟨_,(zE (zL (i:=0) nd rfl (Or.inl rfl) (zQ zBw (by rfl) T.b_abs L2.bi_abs (zB (pv 0) zF))) (zE (zL (i:=1) nd rfl (Or.inl rfl) (zQ zBw (by rfl) T.b_abs L2.bi_abs (zB (pv 1) zF))) (zE (jY PassesOwn.never (zS zEy (pv 1) zG (zZ _)) (zI (ps_par (i:=0) (j:=1) rfl nd rfl rfl (by decide) rfl rfl (zB (pv 1) (zB (zO vN (pv 0) (pv 1)) zF)) (by rfl)))) (zI (zV (pv 0)))))),?_⟩
 refine⟨_,rfl,_,rfl,?_⟩
 refine⟨_,rfl,_,rfl,?_⟩
 have st:=Eh.start a b
 refine⟨fun m σ H'=>H'=H∧∃ (g s:Int),σ=[some (.int g),some (.int s)]∧0≤g∧0≤s∧Eh.G g s=Eh.G a b∧m=s.toNat,
  ⟨_,rfl,Eh.ab a,Eh.ab b,rfl,st.1,st.2.1,st.2.2,rfl⟩,?_⟩
 rintro m σ H' ⟨rfl,g,s,rfl,g0,s0,e,rfl⟩
 refine⟨_,rfl,_,_,rfl,rfl,_,rfl,?_⟩
 refine zAl (fun c=>?_) (fun c=>?_)
 ·have sp:=dec c
  have t:=Eh.turnE g0 s0 e (show ¬ s=0 by omega)
  refine⟨_,fun _ _ h=>h,?_⟩
  refine⟨_,rfl,_,rfl,_,rfl,_,_,rfl,rfl,sp,_,_,rfl,?_⟩
  exact⟨(g%s).toNat,t.2.2,rfl,_,_,rfl,s0,t.1,t.2.1,rfl⟩
 ·have z:s=0:=by have:=ndec c;omega
  refine⟨_,rfl,?_⟩
  rw[Eh.out g0 e z]
  exact q
def spPlainS:Sp:=fun vs H Q _=>∃ (t:Addr)(m:Nat)(ws:List Int)(c:Int),vs=[.ref t]∧vU H t m ws c∧ws.length=m∧m≤420∧∀ H',zP H H'→Q (.bl true) H'
theorem ok_law_plain (T:Txt K mg C_HubError C_NoTurn C_NoFit C_TooWide C_NoRing C_NoHole C_NoWheel C_NoNumber C_NoQuotient C_NoText C_NoName C_NoRow t_MOST_HOLES t_LEAD_BITS t_MOST_HOLES_SIDED):Df P w K mg base 2 "_law_plain" ["found"] spPlainS:=by
 have D_law_whole:=ok_law_whole (P:=P) (w:=w) (base:=base) T
 refine T.d_law_plain.ok zDb (fun vs H Q E h=>?_) (fun f cdv A outer s H vs Q E hr h=>?_)
 ·obtain⟨_,_,_,_,rfl,_⟩:=h;rfl
 obtain⟨t,m,ws,c,rfl,⟨u,ht,hu⟩,lw,m2,q⟩:=h
 have nd:=zDb.nd
 refine⟨_,(zE (wM (PW.pt (pw_or (zEk (zEe (zQ jA (by rfl) T.b_isinstance L2.vJ (zB (pv 0) (zB (zCg (v:=.ty "tuple") (by rfl) T.b_tuple L2.bi_tuple (by rfl)) zF))))) (pw_or (zS zDh (zQ zU (by rfl) T.b_len L2.wW (zB (pv 0) zF)) zG (zZ _)) (pw_or1 (zEk (zEe (zQ jA (by rfl) T.b_isinstance L2.vJ (zB (vE zX (pv 0) zG (fun _ _=>rfl)) (zB (zCg (v:=.ty "tuple") (by rfl) T.b_tuple L2.bi_tuple (by rfl)) zF))))))))) (zI (zV zEu)) vB) (zE (wM (PW.pt (pw_or (zEk (zEe (zR D_law_whole (hr.mono (by decide)) (by rfl) (zB (vE zX (pv 0) zG (fun _ _=>rfl)) zF)))) (pw_or (zEk (zEe (zR D_law_whole (hr.mono (by decide)) (by rfl) (zB (vE zX (pv 0) zG (fun _ _=>rfl)) zF)))) (pw_or1 (zS zDh (zQ zU (by rfl) T.b_len L2.wW (zB (vE zX (pv 0) zG (fun _ _=>rfl)) zF)) (vE zX (pv 0) zG (fun _ _=>rfl)) (zZ _)))))) (zI (zV zEu)) vB) (zI (zV (zQ (zEa rfl) (by rfl) T.b_all L2.bi_all (zB (vO (cap:=[]) (tgs:=["weight"])  rfl rfl rfl (by decide +kernel) (by decide +kernel) (jD (by rfl)) jG jB (vW (by decide)) (pi_tup (vE zX (pv 0) zG (fun _ _=>rfl))) (fun C s H fp=>⟨(vA (i:=0) (show (["weight"]:List Str).Nodup by decide +kernel) rfl (Or.inl rfl) (Or.inr rfl)),zBj,(zR D_law_whole (hr.mono (by decide)) (by rfl) (zB (pv 0) zF))⟩)) zF)))))),?_⟩
 refine⟨_,rfl,_,_,_,true,rfl,.tup ht,zDl _,true,rfl,iteF ?_⟩
 refine⟨_,rfl,t,_,rfl,.inr (SqT.of ht),rfl,_,rfl,iteNS rfl ?_⟩
 refine⟨_,rfl,t,_,_,_,rfl,rfl,SqT.of ht,at3_1 _ _ _,_,_,_,true,rfl,.tup hu,zDl _,true,rfl,iteF ?_⟩
 refine⟨_,rfl,t,_,_,_,rfl,rfl,SqT.of ht,zDv _ _ _,_,rfl,true,rfl,iteF ?_⟩
 refine⟨_,rfl,t,_,_,_,rfl,rfl,SqT.of ht,at3_2 _ _ _,_,rfl,true,rfl,iteF ?_⟩
 refine⟨_,rfl,t,_,_,_,rfl,rfl,SqT.of ht,at3_1 _ _ _,u,_,rfl,.inr (SqT.of hu),_,rfl,t,_,_,_,rfl,rfl,SqT.of ht,zDv _ _ _,rfl,_,rfl,iteNS (by rw[mlen lw]) ?_⟩
 refine⟨_,rfl,t,_,_,_,rfl,rfl,SqT.of ht,at3_1 _ _ _,u,rfl,⟨_,SqT.of hu⟩,?_⟩
 refine comp_tup (K:=K) (xs:=ws.map V.int) (fun i ys H2=>H2=H∧ys=(List.replicate i true).map V.bl) ⟨rfl,rfl⟩ (fun i ys H2 _ z=>by rw[z.1];exact SqT.of hu)
  (fun i ys H2 hi z=>by rw[List.length_map] at hi;rw[z.2,List.length_map,List.length_replicate];exact zAm (by omega)) ?_ ?_
 ·rintro i x ys H2 hx ⟨rfl,rfl⟩
  obtain⟨y,rfl,hy⟩:=int_at hx
  refine⟨_,rfl,y,rfl,rfl,?_⟩
  rw[List.replicate_succ',List.map_append];rfl
 ·rintro ys H2 ⟨rfl,rfl⟩ D hD
  refine⟨D,_,rfl,SqL.of zH,?_⟩
  have e:((List.replicate (ws.map V.int).length true).all id)=true:=by rw[List.all_eq_true];intro b hb;rw[(List.mem_replicate.mp hb).2];rfl
  rw[e]
  exact q _ (zM (zP.refl _) hD)
def spLoadS (K:PySem.W.Frag):Sp:=fun vs H Q _=>∃ (n:Nat)(c:Addr)(ms:List Int)(st most:Int),vs=[.int n,.ref c,.int st,.int most]∧SqL K H c (ms.map V.int)∧ms.length≤80∧1≤n∧n≤420∧0≤most∧most.natAbs < 2^250∧(0≤st∧st≤1000) ∧
 ∀ r H' ld,zP H H'→H r=none→H' r=some (.lst (ld.map V.int))→ld.length=n→Ld.Bd (2^260) ld→Q (.ref r) H'
theorem ok_law_load (T:Txt K mg C_HubError C_NoTurn C_NoFit C_TooWide C_NoRing C_NoHole C_NoWheel C_NoNumber C_NoQuotient C_NoText C_NoName C_NoRow t_MOST_HOLES t_LEAD_BITS t_MOST_HOLES_SIDED):Df P w K mg base 1 "_law_load" ["n","cells","far","most"] (spLoadS K):=by
 refine T.d_law_load.ok zDy (fun vs H Q E h=>?_) (fun f cdv A outer s H vs Q E hr h=>?_)
 ·obtain⟨_,_,_,_,_,rfl,_⟩:=h;rfl
 obtain⟨n,c,ms,st,most,rfl,hc,ml,n1,n2,mo0,mob,stb,q⟩:=h
 have nd:=zDy.nd
 refine⟨_,(zE (zL (i:=4) nd rfl (Or.inl rfl) (zO op_rep (zEm (zB zG zF)) (pv 0))) (zE (j7 PassesOwn.never rfl (zBo (by rfl) T.b_range (zB (zQ zU (by rfl) T.b_len L2.wW (zB (pv 1) zF)) zF)) (vA (i:=5) nd rfl (Or.inl rfl)) (zE (zL (i:=6) nd rfl (Or.inl rfl) (zO vN (zO wE (zO vL (pv 5) (pv 2)) (zO vT (vE jZ (pv 1) (pv 5) (fun _ _=>rfl)) (zO wE (zO vL zG (pv 3)) zG))) (pv 0))) (zI (zFe (zO op_sub (zO wE (vE jZ (pv 4) (pv 6) (fun _ _=>rfl)) (zO vN (vE jZ (pv 1) (pv 5) (fun _ _=>rfl)) (zO wE (zO vL zG (pv 3)) zG))) (pv 3)) (zFi (pv 4) (pv 6) set_list))))) (zI (zV (pv 4))))),?_⟩
 refine⟨(by show 1≤sizeLine;decide),fun l hl=>⟨_,rfl,l,_,_,rfl,rfl,zH,by omega,by omega,(by show 1*_≤_;exact size2 (by omega)),fun du hdu=>?_⟩⟩
 rw[rep0]
 have ldu:l≠du:=zJ zH hdu
 have du0:H du=none:=by rwa [zK (Ne.symm ldu)] at hdu
 have sm0:zP H (upd (upd H l (.lst [V.int 0])) du (.lst ((List.replicate n (0:Int)).map V.int))):=vC (vC (zP.refl H) hl) du0
 have hd0:upd (upd H l (.lst [V.int 0])) du (.lst ((List.replicate n (0:Int)).map V.int)) du=some (.lst ((List.replicate n (0:Int)).map V.int)):=zH
 generalize upd (upd H l (.lst [V.int 0])) du (.lst ((List.replicate n (0:Int)).map V.int))=H0 at sm0 hd0 ⊢
 refine⟨_,rfl,c,_,rfl,.inl (sm0.seq hc),_,rfl,by rw[List.length_map];omega,by rw[List.length_map];omega,?_⟩
 rw[List.length_map,Int.toNat_natCast]
 refine zFh (fun i σ H2=>zP H H2∧∃ (ld:List Int)(o1 o2:Option V),σ=[some (.int n),some (.ref c),some (.int st),some (.int most),some (.ref du),o1,o2]∧H2 du=some (.lst (ld.map V.int))∧ld.length=n∧Ld.Bd (i*2^250) ld)
  ⟨sm0,List.replicate n 0,none,none,rfl,hd0,by simp,Ld.bd_rep _ _⟩ ?_ ?_
 ·rintro i σ H2 hi ⟨sm,ld,o1,o2,rfl,h2,len,bd⟩
  have a1:atI (ms.map V.int) (i:Int)=some (.int (Ld.at' ms i)):=atI_k (by omega) (by omega)
  have hc2:=sm.seq hc
  have mdiv:CDivB (Ld.at' ms i) (2*most+1):=by
   refine⟨by omega,?_⟩
   have hn:(2*most+1).natAbs < 2^252:=by
    have:(2:Nat)^252=4*2^250:=by decide +kernel
    omega
   have:=(Nat.log2_lt (show (2*most+1).natAbs≠0 by omega)).mpr hn
   omega
  have y0:=Int.emod_nonneg (Ld.at' ms i) (show 2*most+1≠0 by omega)
  have y1:=Int.emod_lt_of_pos (Ld.at' ms i) (show 0 < 2*most+1 by omega)
  refine⟨_,rfl,_,rfl,_,_,rfl,rfl,vD (by omega) (by omega),_,rfl,_,rfl,c,_,_,_,rfl,rfl,hc2,a1,_,rfl,_,_,rfl,rfl,vD (by decide) (by decide),_,_,rfl,rfl,_,_,rfl,rfl,mdiv,_,_,rfl,rfl,_,rfl,_,_,rfl,rfl,(show (0:Int) < (n:Int) by omega),?_⟩
  refine⟨_,rfl,_,rfl,du,_,_,_,rfl,rfl,SqL.of h2,atI_mod len (by omega) _,_,rfl,_,rfl,c,_,_,_,rfl,rfl,hc2,a1,_,rfl,_,_,rfl,rfl,vD (by decide) (by decide),_,_,rfl,rfl,_,_,rfl,rfl,(show (0:Int) < 2*most+1 by omega),_,_,rfl,rfl,_,rfl,_,_,rfl,rfl,_,rfl,_,rfl,du,_,_,_,rfl,rfl,h2,zEb (mlen len) (by omega) _,?_⟩
  rw[set_int]
  refine⟨vC sm du0,_,_,_,rfl,zH,by rw[List.length_set,len],?_⟩
  have b1:=Ld.at_bd bd ((i:Int)*st+Ld.at' ms i/(2*most+1))
  refine Ld.bd_set bd (by rw[Nat.succ_mul];omega) ?_
  rw[Nat.succ_mul];omega
 ·rintro σ H2 ⟨sm,ld,o1,o2,rfl,h2,len,bd⟩
  refine⟨_,rfl,q du H2 ld sm du0 h2 len (Ld.zEl bd ?_)⟩
  have:ms.length*2^250≤80*2^250:=Nat.mul_le_mul_right _ ml
  exact Nat.le_trans this (by decide +kernel)
def spLSkip (K:PySem.W.Frag):Sp:=fun vs H Q _=>∃ (r:Addr)(a:List Int)(m:Nat)(st:Int),vs=[.ref r,.int st]∧(SqL K H r (a.map V.int)∨SqT K H r (a.map V.int))∧a.length=m∧1≤m∧m≤420∧Eh.G st m=1∧∀ t H' o,zP H H'→H t=none→H' t=some (.lst (o.map V.int))→Ld.Skp m st a o→Q (.ref t) H'
theorem zEv (T:Txt K mg C_HubError C_NoTurn C_NoFit C_TooWide C_NoRing C_NoHole C_NoWheel C_NoNumber C_NoQuotient C_NoText C_NoName C_NoRow t_MOST_HOLES t_LEAD_BITS t_MOST_HOLES_SIDED):Df P w K mg base 1 "_law_skipped" ["weights","step"] (spLSkip K):=by
 refine T.d_law_skipped.ok zAr (fun vs H Q E h=>?_) (fun f cdv A outer s H vs Q E hr h=>?_)
 ·obtain⟨_,_,_,_,rfl,_⟩:=h;rfl
 obtain⟨r,a,m,st,rfl,ha,la,m1,m2,g,q⟩:=h
 have nd:=zAr.nd
 obtain⟨iv,hiv⟩:=Ld.zCb (by omega) g
 refine⟨_,(zE (zL (i:=2) nd rfl (Or.inl rfl) (zQ zU (by rfl) T.b_len L2.wW (zB (pv 0) zF))) (zE (zL (i:=3) nd rfl (Or.inl rfl) (zO op_rep (zEm (zB zG zF)) (pv 2))) (zE (j7 PassesOwn.never rfl (zBo (by rfl) T.b_range (zB (pv 2) zF)) (vA (i:=4) nd rfl (Or.inl rfl)) (zI (zFe (vE ix_seq (pv 0) (pv 4) (fun _ _=>rfl)) (zFi (pv 3) (zO vN (zO vL (pv 4) (pv 1)) (pv 2)) set_list)))) (zI (zV (pv 3)))))),?_⟩
 refine⟨_,rfl,r,_,rfl,ha,?_⟩
 rw[mlen la]
 refine⟨(by show 1≤sizeLine;decide),fun l hl=>⟨_,rfl,l,_,_,rfl,rfl,zH,by omega,by omega,(by show 1*_≤_;exact size2 (by omega)),fun du hdu=>?_⟩⟩
 rw[rep0]
 have ldu:l≠du:=zJ zH hdu
 have du0:H du=none:=by rwa [zK (Ne.symm ldu)] at hdu
 have sm0:zP H (upd (upd H l (.lst [V.int 0])) du (.lst ((List.replicate m (0:Int)).map V.int))):=vC (vC (zP.refl H) hl) du0
 have hd0:upd (upd H l (.lst [V.int 0])) du (.lst ((List.replicate m (0:Int)).map V.int)) du=some (.lst ((List.replicate m (0:Int)).map V.int)):=zH
 generalize upd (upd H l (.lst [V.int 0])) du (.lst ((List.replicate m (0:Int)).map V.int))=H0 at sm0 hd0 ⊢
 refine⟨_,rfl,_,rfl,by omega,by omega,?_⟩
 rw[Int.toNat_natCast]
 refine zFh (fun i σ H2=>zP H H2∧∃ (o:List Int)(o1:Option V),σ=[some (.ref r),some (.int st),some (.int m),some (.ref du),o1]∧H2 du=some (.lst (o.map V.int))∧o.length=m∧∀ k:Nat,k < i→Ld.at' o ((k:Int)*st)=Ld.at' a k)
  ⟨sm0,List.replicate m 0,none,rfl,hd0,by simp,fun k hk=>by omega⟩ ?_ ?_
 ·rintro i σ H2 hi ⟨sm,o,o1,rfl,hd,ol,inv⟩
  have ai:atI (a.map V.int) (i:Int)=some (.int (Ld.at' a i)):=atI_k (by omega) (by omega)
  have fin:∀ {Q:VK},Q (.int (Ld.at' a i)) H2→rIx K (.ref r) (.int i) H2 Q:=fun {Q} z=>by
   rcases ha with ha | ha
   ·exact .inl ⟨r,_,_,_,rfl,rfl,sm.seq ha,ai,z⟩
   ·exact .inr (.inl ⟨r,_,_,_,rfl,rfl,sm.seqT ha,ai,z⟩)
  refine⟨_,rfl,_,rfl,fin ?_⟩
  refine⟨_,rfl,_,rfl,_,rfl,_,_,rfl,rfl,vD (by omega) (by omega),_,rfl,_,_,rfl,rfl,by omega,du,_,_,_,rfl,rfl,hd,zEb (mlen ol) (by omega) _,?_⟩
  rw[set_int]
  exact⟨vC sm du0,_,_,rfl,zH,by rw[List.length_set,ol],Ld.fill1 (φ:=fun k=>k*st) ol (by omega) (Ld.inj_skip (by omega) hiv) hi inv⟩
 ·rintro σ H2 ⟨sm,o,o1,rfl,hd,ol,inv⟩
  exact⟨_,rfl,q du H2 o sm du0 hd (Ld.skp_end (by omega) la ol inv)⟩
theorem hu10 {A:PySem.Around}{k:Nat}(hr:zBu k A):A.units+10 < cLine:=by have:=hr.un;omega
def spChk (C:Addr):Sp:=fun vs H Q E=>∃ (t:Addr)(m:Nat)(ws:List Int)(c:Int),vs=[.ref t]∧vU H t m ws c∧((m≤60∧Q .non H)∨(60 < m∧E (.ref C) none H))
theorem zAo (T:Txt K mg C_HubError C_NoTurn C_NoFit C_TooWide C_NoRing C_NoHole C_NoWheel C_NoNumber C_NoQuotient C_NoText C_NoName C_NoRow t_MOST_HOLES t_LEAD_BITS t_MOST_HOLES_SIDED):Dx P w K mg base 1 "check_sided" ["x"] (spChk C_TooWide):=by
 refine T.d_check_sided.okx zBb (fun vs H Q E h=>?_) (fun f cdv A outer s H vs Q E hr h=>?_)
 ·obtain⟨_,_,_,_,rfl,_⟩:=h;rfl
 obtain⟨t,m,ws,c,rfl,⟨u,ht,hu⟩,hh⟩:=h
 have nd:=zBb.nd
 refine⟨_,(zI (wM (zS zEy (vE zX (pv 0) zG (fun _ _=>rfl)) (vV (v:=.int 60) (by rfl) T.g_MOST_HOLES_SIDED ⟨_,rfl⟩) (zZ _)) (zI (ps_raise rfl rfl raise_ok T.c_TooWide T.x_TooWide PySem.F.excBase_ValueError (by rfl) (zB (pe_fstr (vV (v:=.int 60) (by rfl) T.g_MOST_HOLES_SIDED ⟨_,rfl⟩) (by decide +kernel) (by decide +kernel) (by decide +kernel) (by decide +kernel)) zF))) vB)),?_⟩
 refine⟨_,rfl,t,_,_,_,rfl,rfl,SqT.of ht,zDv _ _ _,_,_,rfl,rfl,_,rfl,?_⟩
 rcases hh with ⟨m6,q⟩ | ⟨m6,qe⟩
 ·refine zAl (fun c=>?_) (fun c=>q)
  have:=dec c
  exact absurd this (by omega)
 ·refine zAl (fun c=>?_) (fun c=>absurd (ndec c) (by simp;omega))
  exact⟨by decide,qe⟩
abbrev SdAt (H:Hp)(m:Nat)(c:Int)(B:Nat)(as:List Addr)(L:List (List Int)):Prop:=Paired (fun a W=>vU H a m W c∧Vl.Pln m (Ld.at' W) c∧Ld.Bd (2^B) W∧W.length=m) as L
theorem SdAt.same {H H':Hp}{m B:Nat}{c:Int}{as:List Addr}{L:List (List Int)}(h:SdAt H m c B as L)(s:zP H H'):SdAt H' m c B as L:=Paired.mapP h fun _ _ z=>⟨z.1.same s,z.2⟩
theorem sd_keys {H:Hp}{m B:Nat}{c:Int}:∀ {ys:List (VKy×Addr)}{L:List (List Int)},ys.map (·.1)=L.map (fun W=>((m:Int),W,c))→(∀ y∈ys,vU H y.2 y.1.1 y.1.2.1 y.1.2.2)→(∀ y∈ys,Vl.Pln m (Ld.at' y.1.2.1) c∧Ld.Bd (2^B) y.1.2.1∧y.1.2.1.length=m)→SdAt H m c B (ys.map (·.2)) L
 | [],[],_,_,_=>.nil
 | [],_::_,e,_,_=>by simp at e
 | _::_,[],e,_,_=>by simp at e
 | y::ys,W::L,e,h,k=>by
  rw[List.map_cons,List.map_cons] at e
  injection e with e1 e2
  have v:=h y List.mem_cons_self
  have g:=k y List.mem_cons_self
  rw[e1] at v g
  exact .cons ⟨v,g⟩ (sd_keys e2 (fun z hz=>h z (List.mem_cons_of_mem _ hz)) (fun z hz=>k z (List.mem_cons_of_mem _ hz)))
noncomputable abbrev SL (m:Nat)(ws:List Int):List (List Int):=Vl.ded ((Eh.us m m).map (Vl.sl m (Ld.at' ws)))
def spSides (Cx:Addr):Sp:=fun vs H Q E=>∃ (t:Addr)(m B C:Nat)(ws:List Int)(c:Int),vs=[.ref t]∧vU H t m ws c∧ws.length=m∧Vl.Pln m (Ld.at' ws) c∧Ld.Bd (2^B) ws∧c.natAbs < 2^C∧C≤9000 ∧
 ((m≤60∧∀ r H' (as:List Addr),zP H H'→H r=none→H' r=some (.lst (as.map V.ref))→SdAt H' m c (8+B) as (SL m ws)→Q (.ref r) H')∨(60 < m∧E (.ref Cx) none H))
theorem ok_sides (T:Txt K mg C_HubError C_NoTurn C_NoFit C_TooWide C_NoRing C_NoHole C_NoWheel C_NoNumber C_NoQuotient C_NoText C_NoName C_NoRow t_MOST_HOLES t_LEAD_BITS t_MOST_HOLES_SIDED):Dx P w K mg base 8 "sides" ["x"] (spSides C_TooWide):=by
 have D_check_sided:=zAo (P:=P) (w:=w) (base:=base) T
 have D_units:=ok_units (P:=P) (w:=w) (base:=base) T
 have D_side:=ok_side (P:=P) (w:=w) (base:=base) T
 refine T.d_sides.okx sc_sides (fun vs H Q E h=>?_) (fun f cdv A outer s H vs Q E hr h=>?_)
 ·obtain⟨_,_,_,_,_,_,rfl,_⟩:=h;rfl
 obtain⟨t,m,B,C,ws,c,rfl,vt,lw,pl,bw,cC,C9,hh⟩:=h
 have nd:=sc_sides.nd
 have m1:=pl.n1
 have c1:=pl.c1
 obtain⟨u0,ht,hu⟩:=id vt
 refine⟨_,(zE (jF (pe_dx (zCs (fun _ _ h=>h)) D_check_sided (hr.mono (by decide)) (by rfl) (zB (pv 0) zF))) (zE (zL (i:=1) nd rfl (Or.inl rfl) (pe_dnewVK (P:=P) (w:=w) rfl rfl)) (zE (j7 zFq rfl (jP (zR D_units (hr.mono (by decide)) (by rfl) (zB (vE zX (pv 0) zG (fun _ _=>rfl)) zF))) (vA (i:=2) nd rfl (Or.inl rfl)) (zI (ps_dputVK (P:=P) (w:=w) rfl rfl (hu2 hr) (pv 1) (zR D_side (hr.mono (by decide)) (by rfl) (zB (pv 0) (zB (pv 2) zF))) zEu (by rfl)))) (zI (zV (zBk (call_listVK (P:=P) (w:=w) rfl rfl hr.hd) (by rfl) T.b_list L2.zEn (zB (pv 1) zF))))))),?_⟩
 rcases hh with ⟨m6,q⟩ | ⟨m6,qe⟩
 case inr=>exact⟨_,rfl,t,m,ws,c,rfl,vt,.inr ⟨m6,qe⟩⟩
 refine⟨_,rfl,t,m,ws,c,rfl,vt,.inl ⟨m6,?_⟩⟩
 intro d hd
 have sm0:zP H (upd H d (dvO P w d (dvT []))):=zM (zP.refl H) hd
 have hd0:upd H d (dvO P w d (dvT [])) d=some (dvO P w d (dvT [])):=zH
 have ht0:=sm0 _ _ ht
 generalize upd H d (dvO P w d (dvT []))=H0 at sm0 hd0 ht0 ⊢
 refine⟨_,rfl,t,_,_,_,rfl,rfl,SqT.of ht0,zDv _ _ _,m,rfl,m1,by omega,fun r1 hr1=>⟨r1,rfl,⟨_,SqL.of (K:=K) zH⟩,?_⟩⟩
 have sm1:zP H0 (upd H0 r1 (.lst ((Eh.us m m).map V.int))):=zM (zP.refl _) hr1
 have h1:upd H0 r1 (.lst ((Eh.us m m).map V.int)) r1=some (.lst ((Eh.us m m).map V.int)):=zH
 generalize upd H0 r1 (.lst ((Eh.us m m).map V.int))=H1 at sm1 h1 ⊢
 have rd:r1≠d:=Ne.symm (zJ hd0 hr1)
 have ul:=Eh.us_len m m
 refine zAg (xs:=(Eh.us m m).map V.int) (fun i σ H2=>zP H H2∧∃ (ys:List (VKy×Addr))(o1:Option V),σ=[some (.ref t),some (.ref d),o1]∧H2 r1=some (.lst ((Eh.us m m).map V.int))∧dvA P w H2 d ys ∧
   ys.map (·.1)=(Vl.ded (((Eh.us m m).take i).map (Vl.sl m (Ld.at' ws)))).map (fun W=>((m:Int),W,c))∧∀ y∈ys,Vl.Pln m (Ld.at' y.1.2.1) c∧Ld.Bd (2^(8+B)) y.1.2.1∧y.1.2.1.length=m)
  ⟨sm0.trans sm1,[],none,rfl,h1,⟨sm1 _ _ hd0,fun y hy=>nomatch hy⟩,rfl,fun y hy=>nomatch hy⟩ (fun i σ H2 _ z=>by obtain⟨_,_,_,_,z,_⟩:=z;exact SqL.of z) ?_ ?_
 ·rintro i x σ H2 hx ⟨sm,ys,o1,rfl,hr2,da,ek,ea⟩
  obtain⟨uu,rfl,hu2⟩:=int_at hx
  have um:uu∈Eh.us m m:=List.mem_of_getElem? hu2
  have hv:=Vl.zEi m1 um
  have yl:ys.length≤60:=by
   have e:=congrArg List.length ek
   rw[List.length_map,List.length_map] at e
   rw[e]
   refine Nat.le_trans (Vl.ded_le _) ?_
   rw[List.length_map,List.length_take];omega
  refine⟨_,rfl,_,rfl,_,rfl,t,m,m,B,C,ws,c,uu,Vl.iv m uu,Ld.at' ws,c,rfl,vt.same sm,Vl.Tp.selfP lw pl,pl.per,m1,by omega,by omega,hv,bw,cC,C9,fun r3 H3 M W D sm3 f3 v3 t3 b3 d3=>?_⟩
  obtain⟨rfl,rfl,eW⟩:=Vl.tp_side pl hv t3
  have pW:=t3.pln
  have lW:=t3.len
  refine⟨d,r3,ys,((M:Int),W,D),rfl,rfl,rfl,da.same sm3,v3,by omega,?_⟩
  have dn:=(da.same sm3).put (k:=((M:Int),W,D)) v3
  refine⟨vC (sm.trans sm3) hd,dvPut ys ((M:Int),W,D) r3,some (.int uu),rfl,(zK rd).trans (sm3 _ _ hr2),dn,?_,?_⟩
  ·rw[Pt.take_snoc hu2,List.map_append,List.map_cons,List.map_nil,Vl.zBr,← eW]
   unfold dvPut
   have mm:((M:Int),W,D)∈ys.map (·.1)↔W∈Vl.ded (((Eh.us M M).take i).map (Vl.sl M (Ld.at' ws))):=by
    rw[ek,List.mem_map]
    exact⟨fun ⟨W',h,e⟩=>by injection e with _ e;injection e with e;rw[← e];exact h,fun h=>⟨W,h,rfl⟩⟩
   by_cases z:W∈Vl.ded (((Eh.us M M).take i).map (Vl.sl M (Ld.at' ws)))
   ·rw[if_pos (mm.mpr z),if_pos z,ek]
   ·rw[if_neg (fun k=>z (mm.mp k)),if_neg z,List.map_append,List.map_append,ek];rfl
  ·intro y hy
   unfold dvPut at hy
   split at hy
   ·exact ea y hy
   ·rcases List.mem_append.mp hy with hy | hy
    ·exact ea y hy
    ·rw[List.mem_singleton.mp hy];exact⟨pW,b3,lW⟩
 ·rintro σ H2 ⟨sm,ys,o1,rfl,hr2,da,ek,ea⟩
  rw[List.length_map,List.take_length] at ek
  refine⟨_,rfl,d,ys,rfl,da,fun l hl=>?_⟩
  have sl:=zM (zP.refl H2) hl (o:=.lst (ys.map fun y=>V.ref y.2))
  refine q l _ (ys.map (·.2)) (sm.trans sl) (sm.free hl) (by rw[zH,List.map_map];rfl) ?_
  exact SdAt.same (sd_keys ek da.2 ea) sl
def spSSX (Cx:Addr):Sp:=fun vs H Q E=>∃ (t:Addr)(m B C:Nat)(ws:List Int)(c:Int),vs=[.ref t]∧vU H t m ws c∧ws.length=m∧Vl.Pln m (Ld.at' ws) c∧Ld.Bd (2^B) ws∧c.natAbs < 2^C∧C≤9000∧60 < m∧∀ H',zP H H'→E (.ref Cx) none H'
theorem ok_side_sum (T:Txt K mg C_HubError C_NoTurn C_NoFit C_TooWide C_NoRing C_NoHole C_NoWheel C_NoNumber C_NoQuotient C_NoText C_NoName C_NoRow t_MOST_HOLES t_LEAD_BITS t_MOST_HOLES_SIDED):Dx P w K mg base 9 "side_sum" ["x"] (spSSX C_TooWide):=by
 have D_whole:=ok_whole (P:=P) (w:=w) (base:=base) T
 have D_sides:=ok_sides (P:=P) (w:=w) (base:=base) T
 have D_added:=ok_added (P:=P) (w:=w) (base:=base) T
 refine T.d_side_sum.okx zDo (fun vs H Q E h=>?_) (fun f cdv A outer s H vs Q E hr h=>?_)
 ·obtain⟨_,_,_,_,_,_,rfl,_⟩:=h;rfl
 obtain⟨t,m,B,C,ws,c,rfl,vt,lw,pl,bw,cC,C9,m6,qe⟩:=h
 have nd:=zDo.nd
 refine⟨_,(zE (zL (i:=1) nd rfl (Or.inl rfl) (zR D_whole (hr.mono (by decide)) (by rfl) (zB zG zF))) (zE (j7 zFq rfl (jP (pe_dx (zCs (fun _ _ h=>h)) D_sides (hr.mono (by decide)) (by rfl) (zB (pv 0) zF))) (vA (i:=2) nd rfl (Or.inl rfl)) (zI (zL (i:=1) nd rfl (Or.inl rfl) (zR D_added (hr.mono (by decide)) (by rfl) (zB (pv 1) (zB (pv 2) zF)))))) (zI (zV (pv 1))))),?_⟩
 refine⟨_,rfl,fun r0 H0 sm0 f0 v0=>?_⟩
 exact⟨_,rfl,t,m,B,C,ws,c,rfl,vt.same sm0,lw,pl,bw,cC,C9,.inr ⟨m6,qe H0 sm0⟩⟩
theorem zDr (T:Txt K mg C_HubError C_NoTurn C_NoFit C_TooWide C_NoRing C_NoHole C_NoWheel C_NoNumber C_NoQuotient C_NoText C_NoName C_NoRow t_MOST_HOLES t_LEAD_BITS t_MOST_HOLES_SIDED):Dx P w K mg base 2 "side_product" ["x"] (spSSX C_TooWide):=by
 have D_check_sided:=zAo (P:=P) (w:=w) (base:=base) T
 refine T.d_side_product.okx j8 (fun vs H Q E h=>?_) (fun f cdv A outer s H vs Q E hr h=>?_)
 ·obtain⟨_,_,_,_,_,_,rfl,_⟩:=h;rfl
 obtain⟨t,m,B,C,ws,c,rfl,vt,lw,pl,bw,cC,C9,m6,qe⟩:=h
 have nd:=j8.nd
 refine⟨_,(zE (jF (pe_dx (zCs (fun _ _ h=>h)) D_check_sided (hr.mono (by decide)) (by rfl) (zB (pv 0) zF))) pss_none),?_⟩
 exact⟨_,rfl,t,m,ws,c,rfl,vt,.inr ⟨m6,qe H (zP.refl _)⟩⟩
def spAsk (Cx:Addr):Sp:=fun vs H Q E=>∃ (k:Nat)(t:Addr)(m B C:Nat)(ws:List Int)(c:Int),vs=[.int k,.ref t]∧k < 3∧vU H t m ws c∧ws.length=m∧Vl.Pln m (Ld.at' ws) c∧Ld.Bd (2^B) ws∧c.natAbs < 2^C∧C≤9000∧60 < m∧∀ H',zP H H'→E (.ref Cx) none H'
theorem zFt (T:Txt K mg C_HubError C_NoTurn C_NoFit C_TooWide C_NoRing C_NoHole C_NoWheel C_NoNumber C_NoQuotient C_NoText C_NoName C_NoRow t_MOST_HOLES t_LEAD_BITS t_MOST_HOLES_SIDED):Dx P w K mg base 10 "_law_ask" ["which","x"] (spAsk C_TooWide):=by
 have D_sides:=ok_sides (P:=P) (w:=w) (base:=base) T
 have D_side_sum:=ok_side_sum (P:=P) (w:=w) (base:=base) T
 have D_side_product:=zDr (P:=P) (w:=w) (base:=base) T
 refine T.d_law_ask.okx zFx (fun vs H Q E h=>?_) (fun f cdv A outer s H vs Q E hr h=>?_)
 ·obtain⟨_,_,_,_,_,_,_,rfl,_⟩:=h;rfl
 obtain⟨k,t,m,B,C,ws,c,rfl,k3,vt,lw,pl,bw,cC,C9,m6,qe⟩:=h
 have nd:=zFx.nd
 refine⟨_,(zE (wM (zS zDw (pv 0) zG (zZ _)) (zI (jF (pe_dx (zCs (fun _ _ h=>h)) D_sides (hr.mono (by decide)) (by rfl) (zB (pv 1) zF)))) vB) (zE (wM (zS zDw (pv 0) zG (zZ _)) (zI (jF (pe_dx (zCs (fun _ _ h=>h)) D_side_sum (hr.mono (by decide)) (by rfl) (zB (pv 1) zF)))) vB) (zI (wM (zS zDw (pv 0) zG (zZ _)) (zI (jF (pe_dx (zCs (fun _ _ h=>h)) D_side_product (hr.mono (by decide)) (by rfl) (zB (pv 1) zF)))) vB)))),?_⟩
 refine⟨_,rfl,rfl,_,rfl,zAl (fun d=>?_) (fun d=>?_)⟩
 ·exact⟨_,rfl,t,m,B,C,ws,c,rfl,vt,lw,pl,bw,cC,C9,.inr ⟨m6,qe H (zP.refl _)⟩⟩
 have k0:=nvint d
 refine⟨_,rfl,rfl,_,rfl,zAl (fun d=>?_) (fun d=>?_)⟩
 ·exact⟨_,rfl,t,m,B,C,ws,c,rfl,vt,lw,pl,bw,cC,C9,m6,qe⟩
 have k1:=nvint d
 refine⟨_,rfl,rfl,_,rfl,zAl (fun d=>?_) (fun d=>?_)⟩
 ·exact⟨_,rfl,t,m,B,C,ws,c,rfl,vt,lw,pl,bw,cC,C9,m6,qe⟩
 have k2:=nvint d
 exact absurd k3 (by omega)
def spRefd:Sp:=fun vs H Q _=>∃ (k:Nat)(t:Addr)(m B C:Nat)(ws:List Int)(c:Int),vs=[.int k,.ref t]∧k < 3∧vU H t m ws c∧ws.length=m∧Vl.Pln m (Ld.at' ws) c∧Ld.Bd (2^B) ws∧c.natAbs < 2^C∧C≤9000∧60 < m∧∀ H',zP H H'→Q (.bl true) H'
theorem zEx (T:Txt K mg C_HubError C_NoTurn C_NoFit C_TooWide C_NoRing C_NoHole C_NoWheel C_NoNumber C_NoQuotient C_NoText C_NoName C_NoRow t_MOST_HOLES t_LEAD_BITS t_MOST_HOLES_SIDED):Df P w K mg base 11 "_law_refused" ["which","x"] spRefd:=by
 have D_law_ask:=zFt (P:=P) (w:=w) (base:=base) T
 refine T.d_law_refused.ok zAp (fun vs H Q E h=>?_) (fun f cdv A outer s H vs Q E hr h=>?_)
 ·obtain⟨_,_,_,_,_,_,_,rfl,_⟩:=h;rfl
 obtain⟨k,t,m,B,C,ws,c,rfl,k3,vt,lw,pl,bw,cC,C9,m6,q⟩:=h
 have nd:=zAp.nd
 refine⟨_,(zE (zL (i:=2) nd rfl (Or.inl rfl) zEu) (zE (zL (i:=3) nd rfl (Or.inl rfl) zEu) (zE (ps_try rfl rfl rfl (psxs_one (psx_expr (pex_dx rfl D_law_ask (hr.mono (by decide)) (by rfl) (zB (pv 0) (zB (pv 1) zF))))) (ph_as (i:=4) nd rfl rfl (fun ea=>(vV (v:=.ref C_TooWide) (by rfl) T.c_TooWide rfl)) (fun ea=>(zE (zL (i:=2) nd rfl (Or.inl rfl) zEu) (zE (zL (i:=3) nd rfl (Or.inl rfl) (zQ (zBt (K:=K) rfl) (by rfl) T.b_isinstance L2.vJ (zB (pv 4) (zB (jL (zB (vV (v:=.ref C_NoFit) (by rfl) T.c_NoFit rfl) (zB (vV (v:=.ref C_NoHole) (by rfl) T.c_NoHole rfl) (zB (vV (v:=.ref C_NoName) (by rfl) T.c_NoName rfl) (zB (vV (v:=.ref C_NoNumber) (by rfl) T.c_NoNumber rfl) (zB (vV (v:=.ref C_NoQuotient) (by rfl) T.c_NoQuotient rfl) (zB (vV (v:=.ref C_NoRing) (by rfl) T.c_NoRing rfl) zF))))))) zF)))) (zI (zL (i:=3) nd rfl (Or.inl rfl) (pe_or (pv 3) (pe_one (zQ (zBt (K:=K) rfl) (by rfl) T.b_isinstance L2.vJ (zB (pv 4) (zB (jL (zB (vV (v:=.ref C_NoRow) (by rfl) T.c_NoRow rfl) (zB (vV (v:=.ref C_NoText) (by rfl) T.c_NoText rfl) (zB (vV (v:=.ref C_NoTurn) (by rfl) T.c_NoTurn rfl) (zB (vV (v:=.ref C_NoWheel) (by rfl) T.c_NoWheel rfl) zF))))) zF)))))))))) ph_never)) (zI (zV (pe_and (pv 2) (pe_one (pe_not (pv 3))))))))),?_⟩
 refine⟨_,rfl,_,rfl,k,t,m,B,C,ws,c,rfl,k3,vt,lw,pl,bw,cC,C9,m6,fun H' sm=>?_⟩
 refine⟨true,.inl T.m_TooWide_TooWide,iteT fun ea hea=>?_⟩
 have x0:upd H' ea (ExO ea (.ref C_TooWide)) ea=some (ExO ea (.ref C_TooWide)):=zH
 have s0:zP H (upd H' ea (ExO ea (.ref C_TooWide))):=sm.trans (zM (zP.refl _) hea)
 generalize upd H' ea (ExO ea (.ref C_TooWide))=H0 at x0 s0 ⊢
 refine⟨_,rfl,(by show 6≤sizeLine;decide),fun t1 ht1=>⟨ea,C_TooWide,t1,_,_,_,rfl,(zK (zJ x0 ht1)).trans x0,T.e_TooWide,zH,rfl,T.j_1,?_⟩⟩
 refine⟨_,rfl,false,rfl,iteF ⟨_,rfl,(by show 4≤sizeLine;decide),fun t2 ht2=>⟨ea,C_TooWide,t2,_,_,_,rfl,(zK (zJ ((zK (zJ x0 ht1)).trans x0) ht2)).trans ((zK (zJ x0 ht1)).trans x0),T.e_TooWide,zH,rfl,T.j_2,?_⟩⟩⟩
 exact⟨_,rfl,true,rfl,iteT ⟨_,rfl,false,rfl,q _ (zM (zM s0 ht1) ht2)⟩⟩
theorem j5 (T:Txt K mg C_HubError C_NoTurn C_NoFit C_TooWide C_NoRing C_NoHole C_NoWheel C_NoNumber C_NoQuotient C_NoText C_NoName C_NoRow t_MOST_HOLES t_LEAD_BITS t_MOST_HOLES_SIDED):Df P w K mg base 11 "_law_refused_by_base" ["which","x"] spRefd:=by
 have D_law_ask:=zFt (P:=P) (w:=w) (base:=base) T
 refine T.d_law_refused_by_base.ok wP (fun vs H Q E h=>?_) (fun f cdv A outer s H vs Q E hr h=>?_)
 ·obtain⟨_,_,_,_,_,_,_,rfl,_⟩:=h;rfl
 obtain⟨k,t,m,B,C,ws,c,rfl,k3,vt,lw,pl,bw,cC,C9,m6,q⟩:=h
 have nd:=wP.nd
 refine⟨_,(zE (zL (i:=2) nd rfl (Or.inl rfl) zEu) (zE (ps_try rfl rfl rfl (psxs_one (psx_expr (pex_dx rfl D_law_ask (hr.mono (by decide)) (by rfl) (zB (pv 0) (zB (pv 1) zF))))) (ph_as (i:=3) nd rfl rfl (fun ea=>(vV (v:=.ref C_HubError) (by rfl) T.c_HubError rfl)) (fun ea=>(zI (zL (i:=2) nd rfl (Or.inl rfl) (zQ (call_isinstX (K:=K) rfl) (by rfl) T.b_isinstance L2.vJ (zB (pv 3) (zB (zCg (v:=.ty "ValueError") (by rfl) T.b_ValueError L2.bi_ValueError (by rfl)) zF)))))) ph_never)) (zI (zV (pv 2))))),?_⟩
 refine⟨_,rfl,_,rfl,k,t,m,B,C,ws,c,rfl,k3,vt,lw,pl,bw,cC,C9,m6,fun H' sm=>?_⟩
 refine⟨true,.inl T.m_TooWide_HubError,iteT fun ea hea=>?_⟩
 have x0:upd H' ea (ExO ea (.ref C_TooWide)) ea=some (ExO ea (.ref C_TooWide)):=zH
 refine⟨_,rfl,ea,C_TooWide,_,_,_,rfl,x0,T.e_TooWide,rfl,T.i_TooWide_ValueError,?_⟩
 exact⟨_,rfl,q _ (sm.trans (zM (zP.refl _) hea))⟩
def spLWh:Sp:=fun vs H Q _=>∃ v:Int,vs=[.int v]∧∀ n:Nat,1≤n→n≤420→(n≤30∨60 < n)→Q (.int n) H
theorem ok_law_wheel (T:Txt K mg C_HubError C_NoTurn C_NoFit C_TooWide C_NoRing C_NoHole C_NoWheel C_NoNumber C_NoQuotient C_NoText C_NoName C_NoRow t_MOST_HOLES t_LEAD_BITS t_MOST_HOLES_SIDED):Df P w K mg base 1 "_law_wheel" ["cell"] spLWh:=by
 refine T.d_law_wheel.ok zCv (fun vs H Q E h=>?_) (fun f cdv A outer s H vs Q E hr h=>?_)
 ·obtain⟨_,rfl,_⟩:=h;rfl
 obtain⟨v,rfl,q⟩:=h
 have nd:=zCv.nd
 have fin:∀ x:Int,1≤x→x≤420→(x≤30∨60 < x)→Q (.int x) H:=fun x a b c=>by
  have:=q x.toNat (by omega) (by omega) (by omega)
  rwa [show ((x.toNat:Nat):Int)=x by omega] at this
 refine⟨_,(zE (wM (zS zDw (zO vN (pv 0) zG) zG (zZ _)) (zI (zV (zO wE zG (zO vN (zO vT (pv 0) zG) zG)))) vB) (zE (wM (zS zDw (zO vN (pv 0) zG) zG (zZ _)) (zI (zV (zO wE zG (zO vN (zO vT (pv 0) zG) zG)))) vB) (zI (zV (zO wE zG (zO vN (zO vT (pv 0) zG) zG)))))),?_⟩
 refine⟨_,rfl,_,_,rfl,rfl,(by show (0:Int) < _;decide),rfl,_,rfl,zAl (fun _=>?_) (fun _=>?_)⟩
 ·exact⟨_,rfl,_,_,rfl,rfl,vK (by decide) (by decide),_,_,rfl,rfl,(by show (0:Int) < _;decide),_,_,rfl,rfl,fin _ (by omega) (by omega) (by omega)⟩
 refine⟨_,rfl,_,_,rfl,rfl,(by show (0:Int) < _;decide),rfl,_,rfl,zAl (fun _=>?_) (fun _=>?_)⟩
 ·exact⟨_,rfl,_,_,rfl,rfl,vK (by decide) (by decide),_,_,rfl,rfl,(by show (0:Int) < _;decide),_,_,rfl,rfl,fin _ (by omega) (by omega) (by omega)⟩
 ·exact⟨_,rfl,_,_,rfl,rfl,vK (by decide) (by decide),_,_,rfl,rfl,(by show (0:Int) < _;decide),_,_,rfl,rfl,fin _ (by omega) (by omega) (by omega)⟩
def spBottom:Sp:=fun vs H Q _=>∃ c m:Int,vs=[.int c,.int m]∧0≤m∧m.natAbs < 2^249∧∀ v:Int,v≠0→v.natAbs < 2^250→Q (.int v) H
theorem ok_law_bottom (T:Txt K mg C_HubError C_NoTurn C_NoFit C_TooWide C_NoRing C_NoHole C_NoWheel C_NoNumber C_NoQuotient C_NoText C_NoName C_NoRow t_MOST_HOLES t_LEAD_BITS t_MOST_HOLES_SIDED):Df P w K mg base 1 "_law_bottom" ["cell","most"] spBottom:=by
 refine T.d_law_bottom.ok zBq (fun vs H Q E h=>?_) (fun f cdv A outer s H vs Q E hr h=>?_)
 ·obtain⟨_,_,rfl,_⟩:=h;rfl
 obtain⟨c,m,rfl,m0,mb,q⟩:=h
 have nd:=zBq.nd
 have y0:=Int.emod_nonneg c (show 2*m+1≠0 by omega)
 have y1:=Int.emod_lt_of_pos c (show 0 < 2*m+1 by omega)
 refine⟨_,(zE (zL (i:=2) nd rfl (Or.inl rfl) (zO op_sub (zO vN (pv 0) (zO wE (zO vL zG (pv 1)) zG)) (pv 1))) (zE (wM (zS zDw (pv 2) zG (zZ _)) (zI (zV zG)) vB) (zI (zV (pv 2))))),?_⟩
 refine⟨_,rfl,_,rfl,_,_,rfl,rfl,vD (by decide) (by decide),_,_,rfl,rfl,_,_,rfl,rfl,(show (0:Int) < 2*m+1 by omega),_,rfl,_,_,rfl,rfl,?_⟩
 refine⟨_,rfl,rfl,_,rfl,zAl (fun d=>?_) (fun d=>?_)⟩
 ·exact q _ (by decide) (by decide)
 ·exact⟨_,rfl,q _ (nvint d) (by have:(2:Nat)^250=2*2^249:=(by decide +kernel);omega)⟩
theorem mul_smallR {a b:Int}(h1:-1000000000≤b)(h2:b≤1000000000):IntMulOk a b:=IntMulOk.of_right (intBits_le_64 (by omega) (by omega))
def spGath (K:PySem.W.Frag):Sp:=fun vs H Q _=>∃ (r:Addr)(a:List Int)(n:Nat)(st:Int),vs=[.ref r,.int st]∧SqL K H r (a.map V.int)∧a.length=n∧1≤n∧n≤30∧0≤st∧st≤1000∧Ld.Bd (2^260) a ∧
 ∀ t H' ld,zP H H'→H t=none→H' t=some (.lst (ld.map V.int))→ld.length=n→Ld.Bd (2^270) ld→Q (.ref t) H'
theorem zEd (T:Txt K mg C_HubError C_NoTurn C_NoFit C_TooWide C_NoRing C_NoHole C_NoWheel C_NoNumber C_NoQuotient C_NoText C_NoName C_NoRow t_MOST_HOLES t_LEAD_BITS t_MOST_HOLES_SIDED):Df P w K mg base 2 "_law_gathered" ["load","step"] (spGath K):=by
 have D_law_divisor:=zAy (P:=P) (w:=w) (base:=base) T
 have D_law_skipped:=zEv (P:=P) (w:=w) (base:=base) T
 refine T.d_law_gathered.ok zAc (fun vs H Q E h=>?_) (fun f cdv A outer s H vs Q E hr h=>?_)
 ·obtain⟨_,_,_,_,rfl,_⟩:=h;rfl
 obtain⟨r,a,n,s0,rfl,ha,la,n1,n2,s00,s01,bd,q⟩:=h
 have nd:=zAc.nd
 refine⟨_,(zE (zL (i:=2) nd rfl (Or.inl rfl) (zQ zU (by rfl) T.b_len L2.wW (zB (pv 0) zF))) (zE (jY PassesOwn.never (zS zDh (zR D_law_divisor (hr.mono (by decide)) (by rfl) (zB (pv 1) (zB (pv 2) zF))) zG (zZ _)) (zI (zL (i:=1) nd rfl (Or.inl rfl) (zO wE (pv 1) zG)))) (zE (zL (i:=3) nd rfl (Or.inl rfl) (zBk zCw (by rfl) T.b_list L2.zEn (zB (pv 0) zF))) (zE (zL (i:=4) nd rfl (Or.inl rfl) (zO vN (pv 1) (pv 2))) (zE (jY PassesOwn.never (zS zDh (pv 4) (zO vN zG (pv 2)) (zZ _)) (zE (zFs (cap:=[]) (tgs:=["one","other"]) (i:=3) nd rfl (Or.inl rfl) rfl rfl rfl (by decide +kernel) (by decide +kernel) (jD (by rfl)) jG jB (zBi (by decide) (by decide)) (pi_zip (by rfl) T.b_zip (zB (pv 3) (zB (zR D_law_skipped (hr.mono (by decide)) (by rfl) (zB (pv 0) (zB (pv 4) zF))) zF))) (fun C s H fp=>⟨(zFl rfl (wF (vA (i:=0) (show (["one","other"]:List Str).Nodup by decide +kernel) rfl (Or.inl rfl) (Or.inr rfl)) (wF (vA (i:=1) (show (["one","other"]:List Str).Nodup by decide +kernel) rfl (Or.inl rfl) (Or.inr rfl)) zCm))),zBj,(zO wE (pv 0) (pv 1))⟩)) (zI (zL (i:=4) nd rfl (Or.inl rfl) (zO vN (zO vL (pv 4) (pv 1)) (pv 2)))))) (zI (zV (pv 3)))))))),?_⟩
 refine⟨_,rfl,r,_,rfl,.inl ha,?_⟩
 rw[mlen la]
 have e0:=Int.emod_nonneg (1-s0) (show (n:Int)≠0 by omega)
 have e1:=Int.emod_lt_of_pos (1-s0) (show 0 < (n:Int) by omega)
 obtain⟨t,ht⟩:∃ t:Int,t=s0+(1-s0)%n:=⟨_,rfl⟩
 have gt:Eh.G t n=1:=by
  refine Ld.zDj (v:=1) ?_
  rw[Int.mul_one,ht,Int.add_emod,Int.emod_emod_of_dvd _ (Int.dvd_refl _),← Int.add_emod]
  congr 1;omega
 refine⟨fun m σ H'=>H'=H∧∃ st:Int,σ=[some (.ref r),some (.int st),some (.int n),none,none]∧s0≤st∧st≤t∧m=(t-st).toNat,⟨_,rfl,s0,rfl,Int.le_refl _,by omega,rfl⟩,?_⟩
 rintro m σ H' ⟨rfl,st,rfl,h0,h1,rfl⟩
 refine⟨_,rfl,_,rfl,_,_,rfl,rfl,_,rfl,zAl (fun d=>?_) (fun d=>?_)⟩
 ·have ne:¬ Eh.G st n=1:=vne d
  have nt:st≠t:=fun z=>ne (by rw[z];exact gt)
  refine⟨_,fun _ _ h=>h,?_⟩
  refine⟨_,rfl,_,_,rfl,rfl,?_⟩
  exact⟨(t-(st+1)).toNat,by omega,rfl,st+1,rfl,by omega,by omega,rfl⟩
 have gs:Eh.G st n=1:=nvne d
 obtain⟨R,R1,R2,eR⟩:=Vl.ord_ex n1 gs
 refine⟨_,rfl,r,_,rfl,.inl ha,fun du hdu=>?_⟩
 have sm0:zP H' (upd H' du (.lst (a.map V.int))):=zM (zP.refl _) hdu
 have hd0:upd H' du (.lst (a.map V.int)) du=some (.lst (a.map V.int)):=zH
 generalize upd H' du (.lst (a.map V.int))=H0 at sm0 hd0 ⊢
 refine⟨_,rfl,_,rfl,_,_,rfl,rfl,by omega,?_⟩
 refine⟨fun m σ H2=>zP H' H2∧∃ (i:Nat)(fo:Addr)(ld:List Int),σ=[some (.ref r),some (.int st),some (.int n),some (.ref fo),some (.int (st^i%n))]∧H' fo=none∧H2 fo=some (.lst (ld.map V.int))∧ld.length=n∧Ld.Bd (i*2^260) ld∧1≤i∧i≤R∧m=R-i,
  ⟨_,sm0,1,du,a,by rw[Int.pow_succ,Int.pow_zero,Int.one_mul];rfl,hdu,hd0,la,by rw[Nat.one_mul];exact bd,Nat.le_refl 1,R1,rfl⟩,?_⟩
 rintro m σ H2 ⟨sm2,i,fo,ld,rfl,fo0,h2,ll,bl,i1,iR,rfl⟩
 refine⟨_,rfl,_,rfl,_,_,rfl,rfl,by omega,rfl,_,rfl,zAl (fun d=>?_) (fun d=>?_)⟩
 ·have ne:¬ st^i%n=1%n:=vne d
  have iR':i < R:=by
   rcases Nat.lt_or_eq_of_le iR with l | l
   ·exact l
   ·exact absurd (by rw[l];exact eR) ne
  refine⟨_,fun _ _ h=>h,?_⟩
  refine⟨_,rfl,_,rfl,_,rfl,r,a,n,st^i%n,rfl,.inl (sm2.seq ha),la,n1,by omega,Vl.pow_G n1 gs i,fun so H3 o sm3 f3 h3 sk=>?_⟩
  have lo:=sk.lo
  have bo:Ld.Bd (2^260) o:=by
   obtain⟨iv,hiv⟩:=Ld.zCb n1 (Vl.pow_G n1 gs i)
   exact Ld.bd_skp sk hiv bd
  have pl:(Ld.plus ld o).length=n:=by rw[Ld.jM (by rw[ll,lo]),ll]
  refine⟨fo,so,rfl,⟨_,SqL.of (sm3 _ _ h2)⟩,⟨_,SqL.of h3⟩,?_⟩
  refine comp_zip (K:=K) (xs:=ld.map V.int) (ys:=o.map V.int) (by rw[List.length_map,List.length_map,ll,lo]) (fun k rs H4=>zP H3 H4∧rs=((Ld.plus ld o).take k).map V.int) ⟨zP.refl _,by simp⟩ (fun k rs H4 _ z=>⟨z.1.seq (SqL.of (sm3 _ _ h2)),z.1.seq (SqL.of h3)⟩)
   (fun k rs H4 hk z=>by rw[List.length_map] at hk;rw[z.2];simp only [List.length_map,List.length_take];exact zAm (by omega)) ?_ ?_
  ·rintro k x y rs H4 p hx hy ⟨sm4,rfl⟩ hp
   obtain⟨u,rfl,hu⟩:=int_at hx
   obtain⟨v,rfl,hv⟩:=int_at hy
   refine⟨p,_,rfl,SqT.of zH,rfl,_,_,rfl,_,_,rfl,rfl,?_⟩
   refine⟨_,rfl,_,rfl,_,_,rfl,rfl,zM sm4 hp,?_⟩
   rw[wX (v:=u+v)]
   unfold Ld.plus
   rw[List.getElem?_zipWith,hu,hv]
  rintro rs H4 ⟨sm4,rfl⟩ D hD
  rw[jJ (by rw[pl,List.length_map,ll])]
  have s4:=(sm2.trans sm3).trans sm4
  refine⟨_,rfl,_,rfl,_,_,rfl,rfl,mul_smallR (by omega) (by omega),_,rfl,_,_,rfl,rfl,by omega,?_⟩
  refine⟨R-(i+1),by omega,s4.trans (zM (zP.refl _) hD),i+1,D,Ld.plus ld o,?_,s4.free hD,zH,pl,?_,by omega,iR',rfl⟩
  ·have e:st^i%(n:Int)*st%n=st^(i+1)%n:=by rw[Int.pow_succ,Vl.zW (Int.emod_emod_of_dvd _ (Int.dvd_refl _)) rfl]
   dsimp only
   rw[e];rfl
  ·intro x hx
   obtain⟨k,hk⟩:=List.mem_iff_getElem?.mp hx
   unfold Ld.plus at hk
   rw[List.getElem?_zipWith] at hk
   cases eu:ld[k]? with
   | none=>rw[eu] at hk;cases hk
   | some u =>
    cases ev:o[k]? with
    | none=>rw[eu,ev] at hk;cases hk
    | some v =>
     rw[eu,ev] at hk
     cases hk
     have b1:=bl u (List.mem_of_getElem? eu)
     have b2:=bo v (List.mem_of_getElem? ev)
     rw[Nat.succ_mul]
     exact Nat.le_trans (Int.natAbs_add_le u v) (Nat.add_le_add b1 b2)
 ·refine⟨_,rfl,q fo H2 ld sm2 fo0 h2 ll (Ld.zEl bl ?_)⟩
  have:i*2^260≤30*2^260:=Nat.mul_le_mul_right _ (by omega)
  exact Nat.le_trans this (by decide +kernel)
theorem ok_law (T:Txt K mg C_HubError C_NoTurn C_NoFit C_TooWide C_NoRing C_NoHole C_NoWheel C_NoNumber C_NoQuotient C_NoText C_NoName C_NoRow t_MOST_HOLES t_LEAD_BITS t_MOST_HOLES_SIDED){f:Addr}{fd:FuncData}(F:Fun K "law" "law" s_law f fd):zFo P w K mg base CX0 13 f fd ["script"] (spLaw K):=by
 have D_law_cell_at:=zEw (P:=P) (w:=w) (base:=base) T
 have D_law_plain:=ok_law_plain (P:=P) (w:=w) (base:=base) T
 have D_law_load:=ok_law_load (P:=P) (w:=w) (base:=base) T
 have D_law_gathered:=zEd (P:=P) (w:=w) (base:=base) T
 have D_law_bottom:=ok_law_bottom (P:=P) (w:=w) (base:=base) T
 have D_law_wheel:=ok_law_wheel (P:=P) (w:=w) (base:=base) T
 have D_law_refused:=zEx (P:=P) (w:=w) (base:=base) T
 have D_law_refused_by_base:=j5 (P:=P) (w:=w) (base:=base) T
 have D_law_divisor:=zAy (P:=P) (w:=w) (base:=base) T
 have D_value:=ok_value (P:=P) (w:=w) (base:=base) T
 have D_side:=ok_side (P:=P) (w:=w) (base:=base) T
 have D_sides:=ok_sides (P:=P) (w:=w) (base:=base) T
 refine F.ok sc_law (fun vs H Q E h=>?_) (fun cdv A outer s H vs Q E hr h=>?_)
 ·obtain⟨_,_,rfl,_⟩:=h;rfl
 obtain⟨a,ns,rfl,hS,h63,q⟩:=h
 have nd:=sc_law.nd
 refine⟨_,(zE (zL (i:=1) nd rfl (Or.inl rfl) (zR D_law_wheel (hr.mono (by decide)) (by rfl) (zB (zR D_law_cell_at (hr.mono (by decide)) (by rfl) (zB (pv 0) (zB zG zF))) zF))) (zE (zL (i:=2) nd rfl (Or.inl rfl) (zR D_law_load (hr.mono (by decide)) (by rfl) (zB (pv 1) (zB (pe_slice sl_list (pv 0) (po_some zG) (po_some zG)) (zB (zO wE zG (zO vN (zR D_law_cell_at (hr.mono (by decide)) (by rfl) (zB (pv 0) (zB zG zF))) zG)) (zB (zO op_pow zG zG) zF)))))) (pss_mid (wM (zS zEy (pv 1) zG (zZ _)) (zI (zFe (zO wE (vE jZ (pv 2) zG (fun _ _=>rfl)) zG) (zFi (pv 2) zG set_list))) (zI (wM (zS zDw (zO vN (zR D_law_cell_at (hr.mono (by decide)) (by rfl) (zB (pv 0) (zB zG zF))) zG) zG (zZ _)) (zI (zL (i:=2) nd rfl (Or.inl rfl) (zR D_law_gathered (hr.mono (by decide)) (by rfl) (zB (pv 2) (zB (zO wE zG (zO vN (zO vT (zR D_law_cell_at (hr.mono (by decide)) (by rfl) (zB (pv 0) (zB zG zF))) zG) (pv 1))) zF))))) vB))) (zE (zL (i:=3) nd rfl (Or.inr rfl) (zR D_value (hr.mono (by decide)) (by rfl) (zB (pv 2) (zB (zR D_law_bottom (hr.mono (by decide)) (by rfl) (zB (zR D_law_cell_at (hr.mono (by decide)) (by rfl) (zB (pv 0) (zB zG zF))) (zB (zO op_pow zG zG) zF))) zF)))) (zE (wM (zEk (zEe (zR D_law_plain (hr.mono (by decide)) (by rfl) (zB (pv 3) zF)))) (zI (zV zEu)) vB) (zE (wM (zS zEy (vE zX (pv 3) zG (fun _ _=>rfl)) zG (zZ _)) (zI (zV (zQ (zEa rfl) (by rfl) T.b_all L2.bi_all (zB (vO (cap:=[("x",3)]) (tgs:=["k"])  rfl rfl rfl (by decide +kernel) (by decide +kernel) (jD (by rfl)) (jK rfl jG) (jI ⟨rfl,Or.inl rfl,Or.inl rfl,_,rfl⟩ jB) (vW (by decide)) (zBo (by rfl) T.b_range (zB zG zF)) (fun C s H fp=>⟨(vA (i:=1) (show (["x","k"]:List Str).Nodup by decide +kernel) rfl (Or.inl rfl) (Or.inr rfl)),zBj,(pe_and (zR D_law_refused (hr.mono (by decide)) (by rfl) (zB (pv 1) (zB (pv 0) zF))) (pe_one (zR D_law_refused_by_base (hr.mono (by decide)) (by rfl) (zB (pv 1) (zB (pv 0) zF)))))⟩)) zF)))) vB) (zE (zFs (cap:=[("x",3)]) (tgs:=["u"]) (i:=4) nd rfl (Or.inl rfl) rfl rfl rfl (by decide +kernel) (by decide +kernel) (jD (by rfl)) (jK rfl jG) (jI ⟨rfl,Or.inl rfl,Or.inl rfl,_,rfl⟩ jB) (vW (by decide)) (pi_range2 (by rfl) T.b_range (zB zG (zB (zO wE (vE zX (pv 3) zG (fun _ _=>rfl)) zG) zF))) (fun C s H fp=>⟨(vA (i:=1) (show (["x","u"]:List Str).Nodup by decide +kernel) rfl (Or.inl rfl) (Or.inr rfl)),(pts_one (zS zDw (zR D_law_divisor (hr.mono (by decide)) (by rfl) (zB (pv 1) (zB (vE (ix_tupK (K:=K) rfl) (pv 0) zG (fun _ _=>rfl)) zF))) zG (zZ _))),(pv 1)⟩)) (zE (zL (i:=5) nd rfl (Or.inl rfl) (zEm zF)) (zE (j7 PassesOwn.never rfl (jP (pv 4)) (vA (i:=6) nd rfl (Or.inl rfl)) (zE (zL (i:=7) nd rfl (Or.inl rfl) (zR D_side (hr.mono (by decide)) (by rfl) (zB (pv 3) (zB (pv 6) zF)))) (zI (wM (zS (op_notInV (hu10 hr)) (pv 7) (pv 5) (by rfl)) (zI (jF (pe_bm PySem.F.plainAttrs_list PySem.F.slot_list_append PySem.F.type_list_append zBv (pv 5) (zB (pv 7) zF)))) vB)))) (zE (zL (i:=8) nd rfl (Or.inl rfl) (pe_dx0 D_sides (hr.mono (by decide)) (by rfl) (zB (pv 3) zF))) (zE (wM (PW.pt (pw_or (zEk (zEe (zQ jA (by rfl) T.b_isinstance L2.vJ (zB (pv 8) (zB (zCg (v:=.ty "list") (by rfl) T.b_list L2.zEn (by rfl)) zF))))) (pw_or1 (zEk (zEe (zQ (zEa rfl) (by rfl) T.b_all L2.bi_all (zB (vO (cap:=[]) (tgs:=["one"])  rfl rfl rfl (by decide +kernel) (by decide +kernel) (jD (by rfl)) jG jB (vW (by decide)) (jP (pv 8)) (fun C s H fp=>⟨(vA (i:=0) (show (["one"]:List Str).Nodup by decide +kernel) rfl (Or.inl rfl) (Or.inr rfl)),zBj,(zR D_law_plain (hr.mono (by decide)) (by rfl) (zB (pv 0) zF))⟩)) zF))))))) (zI (zV zEu)) vB) (zE (wM (PW.pt (pw_or (zS (op_neD (hu64 hr)) (pv 8) (pv 5) (zZ _)) (pw_or1 (zS zDh (zO vN (zQ zU (by rfl) T.b_len L2.wW (zB (pv 4) zF)) (zQ zU (by rfl) T.b_len L2.wW (zB (pv 8) zF))) zG (zZ _))))) (zI (zV zEu)) vB) (zI (zV (pe_cmpR (op_eqD (hu64 hr)) (zQ (zCx (hu10 hr)) (by rfl) T.b_sorted L2.bi_sorted (zB (pe_dx0 D_sides (hr.mono (by decide)) (by rfl) (zB (vE jZ (pv 8) (zO vN (zO vT (zR D_law_cell_at (hr.mono (by decide)) (by rfl) (zB (pv 0) (zB zG zF))) zG) (zQ zU (by rfl) T.b_len L2.wW (zB (pv 8) zF))) (fun _ _=>rfl)) zF)) zF)) (zQ (zCx (hu10 hr)) (by rfl) T.b_sorted L2.bi_sorted (zB (pv 8) zF)) (zZ _)))))))))))))))),?_⟩
 have pw:CPow 10 60:=⟨by decide,by decide,by decide⟩
 refine⟨_,rfl,a,ns,0,rfl,hS,(by decide),fun v0=>⟨v0,rfl,fun n n1 n2 nn=>?_⟩⟩
 refine⟨_,rfl,_,rfl,_,rfl,_,rfl,a,_,rfl,hS,fun c1 hc1=>?_⟩
 obtain⟨ms,ems,lms⟩:=cut_map ns (some 4) (some 84)
 rw[ems]
 have smc:zP H (upd H c1 (.lst (ms.map V.int))):=zM (zP.refl _) hc1
 have hc:upd H c1 (.lst (ms.map V.int)) c1=some (.lst (ms.map V.int)):=zH
 generalize upd H c1 (.lst (ms.map V.int))=H0 at smc hc ⊢
 refine⟨_,rfl,a,ns,1,rfl,smc.seq hS,(by decide),fun v3=>⟨_,_,rfl,rfl,(by show (0:Int) < _;decide),_,_,rfl,rfl,_,_,rfl,rfl,pw,?_⟩⟩
 have mo0:(0:Int)≤10^(60:Int).toNat:=by decide +kernel
 have mo1:((10:Int)^(60:Int).toNat).natAbs < 2^249:=by decide +kernel
 have mo2:((10:Int)^(60:Int).toNat).natAbs < 2^250:=by decide +kernel
 refine⟨n,c1,ms,_,_,rfl,SqL.of hc,by omega,n1,by omega,mo0,mo2,⟨by omega,by omega⟩,fun r1 H1 ld1 sm1 f1 h1 l1 b1=>?_⟩
 have s1:=smc.trans sm1
 have fr1:H r1=none:=smc.free f1
 try dsimp only [zEr,List.set_cons_succ,List.set_cons_zero]
 refine⟨fun σ H2=>zP H H2∧∃ (lo:Addr)(ld:List Int),σ=[some (.ref a),some (.int n),some (.ref lo),none,none,none,none,none,none]∧H2 lo=some (.lst (ld.map V.int))∧ld.length=n∧Ld.Bd (2^270) ld,?_,?_⟩
 ·refine⟨_,rfl,_,_,rfl,rfl,_,rfl,zAl (fun d=>?_) (fun d=>?_)⟩
  ·have n60:(60:Int) < n:=dec d
   have at1:atI (ld1.map V.int) (1:Int)=some (.int (Ld.at' ld1 ((1:Nat):Int))):=atI_k (by omega) (by omega)
   refine⟨_,rfl,r1,_,_,_,rfl,rfl,SqL.of h1,at1,_,_,rfl,rfl,_,rfl,r1,_,_,_,rfl,rfl,h1,ixN_in (by decide) (by rw[mlen l1];omega),?_⟩
   rw[set_int]
   refine⟨vC s1 fr1,r1,_,rfl,zH,by rw[List.length_set,l1],?_⟩
   have b2:=Ld.at_bd b1 ((1:Nat):Int)
   have p1:(2:Nat)^260+7≤2^270:=by decide +kernel
   exact Ld.bd_set b1 (by decide +kernel) (Nat.le_trans (Int.natAbs_add_le _ _) (Nat.le_trans (Nat.add_le_add b2 (Nat.le_refl 7)) p1))
  ·have n60:n≤60:=by have:=ndec d;omega
   refine⟨_,rfl,a,ns,2,rfl,s1.seq hS,(by decide),fun v4=>⟨_,_,rfl,rfl,(by show (0:Int) < _;decide),rfl,_,rfl,zAl (fun _=>?_) (fun _=>?_)⟩⟩
   ·refine⟨_,rfl,_,rfl,a,ns,2,rfl,s1.seq hS,(by decide),fun v5=>⟨_,_,rfl,rfl,vK (by decide) (by decide),_,rfl,_,_,rfl,rfl,(show (0:Int) < (n:Int) by omega),_,_,rfl,rfl,?_⟩⟩
    have y0:=Int.emod_nonneg (v5/3) (show (n:Int)≠0 by omega)
    have y1:=Int.emod_lt_of_pos (v5/3) (show 0 < (n:Int) by omega)
    refine⟨r1,ld1,n,_,rfl,SqL.of h1,l1,n1,by omega,by omega,by omega,b1,fun t2 H2 ld2 sm2 f2 h2 l2 b2=>?_⟩
    exact⟨s1.trans sm2,t2,ld2,rfl,h2,l2,b2⟩
   ·exact⟨s1,r1,ld1,rfl,h1,l1,Ld.zEl b1 (by decide +kernel)⟩
 rintro σ H2 ⟨s2,lo,ld,rfl,h2,l2,b2⟩
 refine⟨_,rfl,_,rfl,a,ns,3,rfl,s2.seq hS,(by decide),fun v6=>⟨_,_,rfl,rfl,pw,_,_,rfl,mo0,mo1,fun bo bo0 bob=>?_⟩⟩
 refine⟨lo,ld,n,270,250,bo,rfl,.inl (SqL.of h2),l2,n1,by omega,bo0,bob,by decide,b2,fun tx H3 m ws c sm3 f3 vx tp bx=>?_⟩
 have pl:=tp.pln
 have m2:m≤420:=Nat.le_trans (Nat.le_of_dvd (by omega) tp.mn) n2
 have lw:=tp.len
 have cC:=Vl.cb_lt tp bo0 bob
 have m1:=pl.n1
 have c1':=pl.c1
 have wp:=pl.per
 have sA:=s2.trans sm3
 try dsimp only [zEr,List.set_cons_succ,List.set_cons_zero]
 refine⟨_,rfl,tx,m,ws,c,rfl,vx,lw,m2,fun H5 sm5=>⟨true,rfl,iteF ?_⟩⟩
 have vx5:=vx.same sm5
 have s5:=sA.trans sm5
 obtain⟨u5,hx5,hu5⟩:=id vx5
 refine⟨_,rfl,tx,_,_,_,rfl,rfl,SqT.of hx5,zDv _ _ _,_,_,rfl,rfl,_,rfl,zAl (fun d=>?_) (fun d=>?_)⟩
 ·have m6:60 < m:=by have:=dec d;omega
  refine⟨_,rfl,by decide,by decide,?_⟩
  refine zEo (n:=3) (fun i ys H6=>zP H5 H6∧ys=(List.replicate i true).map V.bl) ⟨zP.refl _,rfl⟩ (fun i ys H6 hi z=>by rw[z.2,List.length_map,List.length_replicate];exact zAm (by omega)) ?_ ?_
  ·rintro i ys H6 hi ⟨sm6,rfl⟩
   refine⟨_,rfl,_,rfl,i,tx,m,278,250,ws,c,rfl,hi,vx5.same sm6,lw,pl,bx,cC,by decide,m6,fun H7 sm7=>⟨true,rfl,iteT ?_⟩⟩
   refine⟨_,rfl,_,rfl,i,tx,m,278,250,ws,c,rfl,hi,vx5.same (sm6.trans sm7),lw,pl,bx,cC,by decide,m6,fun H8 sm8=>⟨(sm6.trans sm7).trans sm8,?_⟩⟩
   rw[List.replicate_succ',List.map_append];rfl
  ·rintro ys H6 ⟨sm6,rfl⟩ D hD
   refine⟨D,_,rfl,SqL.of zH,?_⟩
   exact q _
 have m6:m≤60:=by have:=ndec d;omega
 have ul:=Eh.us_len m m
 refine⟨_,rfl,tx,_,_,_,rfl,rfl,SqT.of hx5,zDv _ _ _,_,_,rfl,rfl,1,(m:Int)+1,rfl,⟨by omega,by omega,by omega,by omega⟩,?_⟩
 refine zCi (fun i ys H6=>H6=H5∧ys=(Eh.us m i).map V.int) ⟨rfl,rfl⟩ (fun i ys H6 hi ⟨_,z⟩=>by rw[z,List.length_map];have:=Eh.us_len m i;exact zAm (by omega)) ?_ ?_
 ·rintro i ys H6 hi ⟨rfl,rfl⟩
  refine⟨_,rfl,_,rfl,tx,_,_,_,rfl,rfl,SqT.of hx5,zDv _ _ _,_,_,rfl,rfl,_,rfl,zAl (fun e=>?_) (fun e=>?_)⟩
  ·exact⟨_,rfl,rfl,by rw[Eh.us_succ,if_pos (vint e)];simp⟩
  ·exact⟨rfl,by rw[Eh.us_succ,if_neg (nvint e)];simp⟩
 rintro ys H6 ⟨rfl,rfl⟩ fr hfr
 have en:((m:Int)+1-1).toNat=m:=by omega
 rw[en]
 have smf:zP H6 (upd H6 fr (.lst ((Eh.us m m).map V.int))):=zM (zP.refl _) hfr
 have hf6:upd H6 fr (.lst ((Eh.us m m).map V.int)) fr=some (.lst ((Eh.us m m).map V.int)):=zH
 generalize upd H6 fr (.lst ((Eh.us m m).map V.int))=HF at smf hf6 ⊢
 refine⟨Nat.zero_le _,fun du hdu=>?_⟩
 have smd:zP HF (upd HF du (.lst [])):=zM (zP.refl _) hdu
 have hd0:upd HF du (.lst []) du=some (.lst []):=zH
 generalize upd HF du (.lst [])=HD at smd hd0 ⊢
 try dsimp only [zEr,List.set_cons_succ,List.set_cons_zero]
 refine⟨_,rfl,fr,rfl,⟨_,SqL.of (K:=K) (smd _ _ hf6)⟩,?_⟩
 refine zAg (xs:=(Eh.us m m).map V.int) (fun i σ H7=>zP HF H7∧∃ (ds:List Addr)(o1 o2:Option V),σ=[some (.ref a),some (.int n),some (.ref lo),some (.ref tx),some (.ref fr),some (.ref du),o1,o2,none]∧H7 du=some (.lst (ds.map V.ref))∧Paired (fun d W=>vU H7 d m W c) ds (Vl.ded (((Eh.us m m).take i).map (Vl.sl m (Ld.at' ws)))))
  ⟨smd,[],none,none,rfl,hd0,.nil⟩ (fun i σ H7 _ z=>SqL.of (z.1 _ _ hf6)) ?_ ?_
 ·rintro i x σ H7 hx ⟨sm7,ds,o1,o2,rfl,h7,pr⟩
  obtain⟨uu,rfl,hu2⟩:=int_at hx
  have um:uu∈Eh.us m m:=List.mem_of_getElem? hu2
  have hv:=Vl.zEi m1 um
  have dl:=Paired.length pr
  have dle:ds.length≤60:=by
   rw[dl]
   refine Nat.le_trans (Vl.ded_le _) ?_
   rw[List.length_map,List.length_take];omega
  refine⟨_,rfl,_,rfl,tx,m,m,278,250,ws,c,uu,Vl.iv m uu,Ld.at' ws,c,rfl,vx5.same (smf.trans sm7),Vl.Tp.selfP lw pl,wp,m1,m2,by omega,hv,bx,cC,by decide,fun r8 H8 M W D sm8 f8 v8 t8 b8 d8=>?_⟩
  obtain⟨rfl,rfl,eW⟩:=Vl.tp_side pl hv t8
  have pr8:Paired (fun d W=>vU H8 d M W D) ds (Vl.ded (((Eh.us M M).take i).map (Vl.sl M (Ld.at' ws)))):=Paired.mapP pr fun _ _ z=>z.same sm8
  have h8:=sm8 _ _ h7
  try dsimp only [zEr,List.set_cons_succ,List.set_cons_zero]
  refine⟨_,rfl,_,rfl,r8,du,ds,M,D,W,_,rfl,rfl,SqL.of h8,pr8,v8,_,rfl,?_⟩
  have ek:=Vl.zBr (((Eh.us M M).take i).map (Vl.sl M (Ld.at' ws))) W
  rw[Pt.take_snoc hu2,List.map_append,List.map_cons,List.map_nil,← eW,ek]
  refine zAl (fun e=>?_) (fun e=>?_)
  ·have nin:¬ W∈Vl.ded (((Eh.us M M).take i).map (Vl.sl M (Ld.at' ws))):=fun z=>by rw[decide_eq_true z] at e;cases e
   rw[if_neg nin]
   refine⟨_,rfl,.inl ⟨rfl,_,SqL.of h8⟩,_,rfl,du,_,_,rfl,rfl,h8,by rw[List.length_map];exact zAm (by omega),?_⟩
   refine⟨vC (sm7.trans sm8) hdu,ds ++ [r8],_,_,rfl,by rw[zH,List.map_append];rfl,?_⟩
   exact Paired.snoc (Paired.mapP pr8 fun _ _ z=>z.updL h8) (v8.updL h8)
  ·have yin:W∈Vl.ded (((Eh.us M M).take i).map (Vl.sl M (Ld.at' ws))):=by
    by_cases z:W∈Vl.ded (((Eh.us M M).take i).map (Vl.sl M (Ld.at' ws)))
    ·exact z
    ·rw[decide_eq_false z] at e;exact absurd rfl e
   rw[if_pos yin]
   exact⟨sm7.trans sm8,ds,_,_,rfl,h8,pr8⟩
 rintro σ H7 ⟨sm7,ds,o1,o2,rfl,h7,pr⟩
 rw[List.length_map,List.take_length] at pr
 have s7:=smf.trans sm7
 have vx7:=vx5.same s7
 refine⟨_,rfl,tx,m,278,250,ws,c,rfl,vx7,lw,pl,bx,cC,by decide,.inl ⟨m6,fun fo H8 as sm8 f8 h8 sd=>?_⟩⟩
 try dsimp only [zEr,List.set_cons_succ,List.set_cons_zero]
 have al:=Paired.length sd
 have sl:(SL m ws).length≤60:=Nat.le_trans (Vl.ded_le _) (by rw[List.length_map];omega)
 have sl1:1≤(SL m ws).length:=by
  have hm:Vl.sl m (Ld.at' ws) 1∈SL m ws:=(Vl.j9 _ _).mpr (List.mem_map.mpr ⟨1,Vl.j2 m1,rfl⟩)
  exact List.length_pos_of_mem hm
 refine⟨_,rfl,_,_,_,true,rfl,.lst h8,zDl _,true,rfl,iteF ?_⟩
 refine⟨_,rfl,fo,rfl,⟨_,SqL.of (K:=K) h8⟩,?_⟩
 refine zEh (K:=K) (xs:=as.map V.ref) (fun i ys H9=>zP H8 H9∧ys=(List.replicate i true).map V.bl) ⟨zP.refl _,rfl⟩ (fun i ys H9 _ z=>SqL.of (z.1 _ _ h8))
  (fun i ys H9 hi z=>by rw[List.length_map] at hi;rw[z.2,List.length_map,List.length_replicate];exact zAm (by omega)) ?_ ?_
 ·rintro i x ys H9 hx ⟨sm9,rfl⟩
  obtain⟨ad,rfl,ea⟩:=ref_at hx
  obtain⟨W2,ew,va,pW,bW,lW⟩:=w5 sd ea
  refine⟨_,rfl,ad,m,W2,c,rfl,va.same sm9,lW,by omega,fun H10 sm10=>⟨sm9.trans sm10,?_⟩⟩
  rw[List.replicate_succ',List.map_append];rfl
 rintro ys H9 ⟨sm9,rfl⟩ D hD
 have e:((List.replicate (as.map V.ref).length true).all id)=true:=by rw[List.all_eq_true];intro b hb;rw[(List.mem_replicate.mp hb).2];rfl
 have smA:zP H8 (upd H9 D (.lst ((List.replicate (as.map V.ref).length true).map V.bl))):=sm9.trans (zM (zP.refl _) hD)
 refine⟨D,_,rfl,SqL.of zH,_,rfl,?_⟩
 rw[e]
 generalize upd H9 D (.lst ((List.replicate (as.map V.ref).length true).map V.bl))=HA at smA ⊢
 refine iteF ?_
 have hA:=smA _ _ h8
 have sdA:=SdAt.same sd smA
 have vsA:Paired (fun d W=>vU HA d m W c) as (SL m ws):=Paired.mapP sdA fun _ _ z=>z.1
 have prA:Paired (fun d W=>vU HA d m W c) ds (SL m ws):=Paired.mapP pr fun _ _ z=>(z.same sm8).same smA
 have hdA:=smA _ _ (sm8 _ _ h7)
 refine⟨_,rfl,_,rfl,neVs_of (SqL.of hA) (SqL.of hdA) vsA prA ⟨false,rfl,iteF ?_⟩⟩
 have hfA:=smA _ _ (sm8 _ _ (sm7 _ _ hf6))
 refine⟨_,rfl,fr,_,rfl,.inl (SqL.of hfA),_,rfl,fo,_,rfl,.inl (SqL.of hA),_,_,rfl,rfl,(by show (0:Int) < ((as.map V.ref).length:Int);rw[List.length_map,al];omega),rfl,_,rfl,?_⟩
 have dv:(((Eh.us m m).map V.int).length:Int)%((as.map V.ref).length:Int)=0:=by
  rw[List.length_map,List.length_map,al];exact Vl.sides_dvd m1 wp
 refine iteNS (congrArg V.int dv) ?_
 have sF:=((s5.trans s7).trans sm8).trans smA
 refine⟨_,rfl,_,rfl,a,ns,1,rfl,sF.seq hS,(by decide),fun v9=>⟨_,_,rfl,rfl,vK (by decide) (by decide),_,rfl,fo,_,rfl,.inl (SqL.of hA),_,_,rfl,rfl,(by show (0:Int) < ((as.map V.ref).length:Int);rw[List.length_map,al];omega),?_⟩⟩
 obtain⟨ix,hix⟩:∃ ix:Nat,v9/11%((as.map V.ref).length:Int)=ix∧ix < as.length:=by
  rw[List.length_map]
  have y0:=Int.emod_nonneg (v9/11) (show ((as.length:Nat):Int)≠0 by omega)
  have y1:=Int.emod_lt_of_pos (v9/11) (show 0 < ((as.length:Nat):Int) by omega)
  exact⟨(v9/11%(as.length:Int)).toNat,by omega,by omega⟩
 obtain⟨eix,lix⟩:=hix
 have eas:as[ix]?=some as[ix]:=List.getElem?_eq_getElem lix
 obtain⟨W3,ew3,va3,pW3,bW3,lW3⟩:=w5 sdA eas
 have at3:atI (as.map V.ref) (v9/11%((as.map V.ref).length:Int))=some (.ref as[ix]):=by
  rw[eix];exact atI_nat (by rw[List.getElem?_map,eas];rfl)
 refine⟨fo,_,_,_,rfl,rfl,SqL.of hA,at3,as[ix],m,8+278,250,W3,c,rfl,va3,lW3,pW3,bW3,cC,by decide,.inl ⟨m6,fun fp HB bs smB fB hB sdB=>?_⟩⟩
 obtain⟨g,hg,eg⟩:=List.mem_map.mp ((Vl.j9 _ _).mp (List.mem_of_getElem? ew3))
 have pm:(SL m W3).Perm (SL m ws):=by rw[← eg];exact Vl.sides_again m1 wp hg
 have vsB:Paired (fun d W=>vU HB d m W c) bs (SL m W3):=Paired.mapP sdB fun _ _ z=>z.1
 have bl:=Paired.length vsB
 refine⟨fp,bs,m,c,SL m W3,rfl,SqL.of hB,vsB,Vl.zDn _,by rw[bl,pm.length_eq];omega,fun q1 b1 L1 hq1 p1 pm1 up1=>?_⟩
 have smQ:zP HB (upd HB q1 (.lst (b1.map V.ref))):=zM (zP.refl _) hq1
 have hq:upd HB q1 (.lst (b1.map V.ref)) q1=some (.lst (b1.map V.ref)):=zH
 generalize upd HB q1 (.lst (b1.map V.ref))=HQ at smQ hq ⊢
 have sQ:=smB.trans smQ
 have vsQ:Paired (fun d W=>vU HQ d m W c) as (SL m ws):=Paired.mapP vsA fun _ _ z=>z.same sQ
 refine⟨_,rfl,fo,as,m,c,SL m ws,rfl,SqL.of (sQ _ _ hA),vsQ,Vl.zDn _,by omega,fun q2 b2 L2 hq2 p2 pm2 up2=>?_⟩
 have eL:L1=L2:=Vl.rising_eq ((pm1.trans pm).trans pm2.symm) up1 up2
 subst eL
 have smR:zP HQ (upd HQ q2 (.lst (b2.map V.ref))):=zM (zP.refl _) hq2
 exact eqVs_of (SqL.of (smR _ _ hq)) (SqL.of zH) (Paired.mapP p1 fun _ _ z=>(z.same smQ).same smR) (Paired.mapP p2 fun _ _ z=>z.same smR) (q _)
end
theorem all_mk {l:PySem.W.OpenLaw}{w:World}{K:PySem.W.Frag}{h:Heap}{mg:Str→Option Value}{fa f0 f1 f2 f3 f4 f5 f6 f7 f8 f9 f10 f11 f12 f13 f14 f15 f16 f17 f18 f19 f20 f21 f22 f23 f24 f25 f26 f27 f28 f29 f30 f31 f32 f33 f34 f35 f36 f37 f38 f39 f40 f41 f42 f43 f44 f45 f46 f47 f48 f49 f50:Addr}(X:K.In h)(G:h.Ns mainGlobals mg)(hfa:mg "law"=some (.ref fa))
  {od0 an0 od1 an1 od2 an2 od3 an3 od4 an4 od5 an5 od6 an6 od7 an7 od8 an8 od9 an9 od10 an10 od11 an11 od12 an12 od13 an13 od14 an14 od15 an15 od16 an16 od17 an17 od18 an18 od19 an19 od20 an20 od21 an21 od22 an22 od23 an23 od24 an24 od25 an25 od26 an26 od27 an27 od28 an28 od29 an29 od30 an30 od31 an31 od32 an32 od33 an33 od34 an34 od35 an35 od36 an36 od37 an37 od38 an38 od39 an39 od40 an40 od41 an41 od42 an42 od43 an43 od44 an44 od45 an45 od46 an46 od47 an47 od48 an48 od49 an49 od50 an50:Option Addr}{sl0 sl1 sl2 sl3 sl4 sl5 sl6 sl7 sl8 sl9 sl10 sl11 sl12 sl13 sl14 sl15 sl16 sl17 sl18 sl19 sl20 sl21 sl22 sl23 sl24 sl25 sl26 sl27 sl28 sl29 sl30 sl31 sl32 sl33 sl34 sl35 sl36 sl37 sl38 sl39 sl40 sl41 sl42 sl43 sl44 sl45 sl46 sl47 sl48 sl49 sl50:Array (Option Value)}{oc0 kV0 dc0 pm0 cd0 ct0 oc1 kV1 dc1 pm1 cd1 ct1 oc2 kV2 dc2 pm2 cd2 ct2 oc3 kV3 dc3 pm3 cd3 ct3 oc4 kV4 dc4 pm4 cd4 ct4 oc5 kV5 dc5 pm5 cd5 ct5 oc6 kV6 dc6 pm6 cd6 ct6 oc7 kV7 dc7 pm7 cd7 ct7 oc8 kV8 dc8 pm8 cd8 ct8 oc9 kV9 dc9 pm9 cd9 ct9 oc10 kV10 dc10 pm10 cd10 ct10 oc11 kV11 dc11 pm11 cd11 ct11 oc12 kV12 dc12 pm12 cd12 ct12 oc13 kV13 dc13 pm13 cd13 ct13 oc14 kV14 dc14 pm14 cd14 ct14 oc15 kV15 dc15 pm15 cd15 ct15 oc16 kV16 dc16 pm16 cd16 ct16 oc17 kV17 dc17 pm17 cd17 ct17 oc18 kV18 dc18 pm18 cd18 ct18 oc19 kV19 dc19 pm19 cd19 ct19 oc20 kV20 dc20 pm20 cd20 ct20 oc21 kV21 dc21 pm21 cd21 ct21 oc22 kV22 dc22 pm22 cd22 ct22 oc23 kV23 dc23 pm23 cd23 ct23 oc24 kV24 dc24 pm24 cd24 ct24 oc25 kV25 dc25 pm25 cd25 ct25 oc26 kV26 dc26 pm26 cd26 ct26 oc27 kV27 dc27 pm27 cd27 ct27 oc28 kV28 dc28 pm28 cd28 ct28 oc29 kV29 dc29 pm29 cd29 ct29 oc30 kV30 dc30 pm30 cd30 ct30 oc31 kV31 dc31 pm31 cd31 ct31 oc32 kV32 dc32 pm32 cd32 ct32 oc33 kV33 dc33 pm33 cd33 ct33 oc34 kV34 dc34 pm34 cd34 ct34 oc35 kV35 dc35 pm35 cd35 ct35 oc36 kV36 dc36 pm36 cd36 ct36 oc37 kV37 dc37 pm37 cd37 ct37 oc38 kV38 dc38 pm38 cd38 ct38 oc39 kV39 dc39 pm39 cd39 ct39 oc40 kV40 dc40 pm40 cd40 ct40 oc41 kV41 dc41 pm41 cd41 ct41 oc42 kV42 dc42 pm42 cd42 ct42 oc43 kV43 dc43 pm43 cd43 ct43 oc44 kV44 dc44 pm44 cd44 ct44 oc45 kV45 dc45 pm45 cd45 ct45 oc46 kV46 dc46 pm46 cd46 ct46 oc47 kV47 dc47 pm47 cd47 ct47 oc48 kV48 dc48 pm48 cd48 ct48 oc49 kV49 dc49 pm49 cd49 ct49 oc50 kV50 dc50 pm50 cd50 ct50:Value}
  (a0:PySem.W.nsIn K mainGlobals "divisor"=some (some (.ref f0)))(l0:K.lookup f0=some ⟨oc0,od0,.func (PySem.W.fnOf "divisor" "divisor" (zD jR) (zC jR) (zA jR) .none kV0 dc0 pm0 an0 cd0 ct0),sl0⟩)(c0:PySem.W.codeIn K cd0 "divisor"=true)(k0:PySem.W.keepIn K (.ref f0)=true)
  (a1:PySem.W.nsIn K mainGlobals "joint"=some (some (.ref f1)))(l1:K.lookup f1=some ⟨oc1,od1,.func (PySem.W.fnOf "joint" "joint" (zD zCq) (zC zCq) (zA zCq) .none kV1 dc1 pm1 an1 cd1 ct1),sl1⟩)(c1:PySem.W.codeIn K cd1 "joint"=true)(k1:PySem.W.keepIn K (.ref f1)=true)
  (a2:PySem.W.nsIn K mainGlobals "euclid"=some (some (.ref f2)))(l2:K.lookup f2=some ⟨oc2,od2,.func (PySem.W.fnOf "euclid" "euclid" (zD zAi) (zC zAi) (zA zAi) .none kV2 dc2 pm2 an2 cd2 ct2),sl2⟩)(c2:PySem.W.codeIn K cd2 "euclid"=true)(k2:PySem.W.keepIn K (.ref f2)=true)
  (a3:PySem.W.nsIn K mainGlobals "turned_on"=some (some (.ref f3)))(l3:K.lookup f3=some ⟨oc3,od3,.func (PySem.W.fnOf "turned_on" "turned_on" (zD wV) (zC wV) (zA wV) .none kV3 dc3 pm3 an3 cd3 ct3),sl3⟩)(c3:PySem.W.codeIn K cd3 "turned_on"=true)(k3:PySem.W.keepIn K (.ref f3)=true)
  (a4:PySem.W.nsIn K mainGlobals "next_turn"=some (some (.ref f4)))(l4:K.lookup f4=some ⟨oc4,od4,.func (PySem.W.fnOf "next_turn" "next_turn" (zD wT) (zC wT) (zA wT) .none kV4 dc4 pm4 an4 cd4 ct4),sl4⟩)(c4:PySem.W.codeIn K cd4 "next_turn"=true)(k4:PySem.W.keepIn K (.ref f4)=true)
  (a5:PySem.W.nsIn K mainGlobals "sure_turn"=some (some (.ref f5)))(l5:K.lookup f5=some ⟨oc5,od5,.func (PySem.W.fnOf "sure_turn" "sure_turn" (zD jE) (zC jE) (zA jE) .none kV5 dc5 pm5 an5 cd5 ct5),sl5⟩)(c5:PySem.W.codeIn K cd5 "sure_turn"=true)(k5:PySem.W.keepIn K (.ref f5)=true)
  (a6:PySem.W.nsIn K mainGlobals "plus"=some (some (.ref f6)))(l6:K.lookup f6=some ⟨oc6,od6,.func (PySem.W.fnOf "plus" "plus" (zD zFb) (zC zFb) (zA zFb) .none kV6 dc6 pm6 an6 cd6 ct6),sl6⟩)(c6:PySem.W.codeIn K cd6 "plus"=true)(k6:PySem.W.keepIn K (.ref f6)=true)
  (a7:PySem.W.nsIn K mainGlobals "check_fit"=some (some (.ref f7)))(l7:K.lookup f7=some ⟨oc7,od7,.func (PySem.W.fnOf "check_fit" "check_fit" (zD wR) (zC wR) (zA wR) .none kV7 dc7 pm7 an7 cd7 ct7),sl7⟩)(c7:PySem.W.codeIn K cd7 "check_fit"=true)(k7:PySem.W.keepIn K (.ref f7)=true)
  (a8:PySem.W.nsIn K mainGlobals "scaled"=some (some (.ref f8)))(l8:K.lookup f8=some ⟨oc8,od8,.func (PySem.W.fnOf "scaled" "scaled" (zD zAj) (zC zAj) (zA zAj) .none kV8 dc8 pm8 an8 cd8 ct8),sl8⟩)(c8:PySem.W.codeIn K cd8 "scaled"=true)(k8:PySem.W.keepIn K (.ref f8)=true)
  (a9:PySem.W.nsIn K mainGlobals "skipped"=some (some (.ref f9)))(l9:K.lookup f9=some ⟨oc9,od9,.func (PySem.W.fnOf "skipped" "skipped" (zD jU) (zC jU) (zA jU) .none kV9 dc9 pm9 an9 cd9 ct9),sl9⟩)(c9:PySem.W.codeIn K cd9 "skipped"=true)(k9:PySem.W.keepIn K (.ref f9)=true)
  (a10:PySem.W.nsIn K mainGlobals "laid_on"=some (some (.ref f10)))(l10:K.lookup f10=some ⟨oc10,od10,.func (PySem.W.fnOf "laid_on" "laid_on" (zD zAd) (zC zAd) (zA zAd) .none kV10 dc10 pm10 an10 cd10 ct10),sl10⟩)(c10:PySem.W.codeIn K cd10 "laid_on"=true)(k10:PySem.W.keepIn K (.ref f10)=true)
  (a11:PySem.W.nsIn K mainGlobals "brought"=some (some (.ref f11)))(l11:K.lookup f11=some ⟨oc11,od11,.func (PySem.W.fnOf "brought" "brought" (zD zAb) (zC zAb) (zA zAb) .none kV11 dc11 pm11 an11 cd11 ct11),sl11⟩)(c11:PySem.W.codeIn K cd11 "brought"=true)(k11:PySem.W.keepIn K (.ref f11)=true)
  (a12:PySem.W.nsIn K mainGlobals "finer"=some (some (.ref f12)))(l12:K.lookup f12=some ⟨oc12,od12,.func (PySem.W.fnOf "finer" "finer" (zD zCh) (zC zCh) (zA zCh) .none kV12 dc12 pm12 an12 cd12 ct12),sl12⟩)(c12:PySem.W.codeIn K cd12 "finer"=true)(k12:PySem.W.keepIn K (.ref f12)=true)
  (a13:PySem.W.nsIn K mainGlobals "parts"=some (some (.ref f13)))(l13:K.lookup f13=some ⟨oc13,od13,.func (PySem.W.fnOf "parts" "parts" (zD zCf) (zC zCf) (zA zCf) .none kV13 dc13 pm13 an13 cd13 ct13),sl13⟩)(c13:PySem.W.codeIn K cd13 "parts"=true)(k13:PySem.W.keepIn K (.ref f13)=true)
  (a14:PySem.W.nsIn K mainGlobals "prime_power"=some (some (.ref f14)))(l14:K.lookup f14=some ⟨oc14,od14,.func (PySem.W.fnOf "prime_power" "prime_power" (zD vZ) (zC vZ) (zA vZ) .none kV14 dc14 pm14 an14 cd14 ct14),sl14⟩)(c14:PySem.W.codeIn K cd14 "prime_power"=true)(k14:PySem.W.keepIn K (.ref f14)=true)
  (a15:PySem.W.nsIn K mainGlobals "units"=some (some (.ref f15)))(l15:K.lookup f15=some ⟨oc15,od15,.func (PySem.W.fnOf "units" "units" (zD zCn) (zC zCn) (zA zCn) .none kV15 dc15 pm15 an15 cd15 ct15),sl15⟩)(c15:PySem.W.codeIn K cd15 "units"=true)(k15:PySem.W.keepIn K (.ref f15)=true)
  (a16:PySem.W.nsIn K mainGlobals "back"=some (some (.ref f16)))(l16:K.lookup f16=some ⟨oc16,od16,.func (PySem.W.fnOf "back" "back" (zD zFj) (zC zFj) (zA zFj) .none kV16 dc16 pm16 an16 cd16 ct16),sl16⟩)(c16:PySem.W.codeIn K cd16 "back"=true)(k16:PySem.W.keepIn K (.ref f16)=true)
  (a17:PySem.W.nsIn K mainGlobals "lay_ring"=some (some (.ref f17)))(l17:K.lookup f17=some ⟨oc17,od17,.func (PySem.W.fnOf "lay_ring" "lay_ring" (zD w4) (zC w4) (zA w4) .none kV17 dc17 pm17 an17 cd17 ct17),sl17⟩)(c17:PySem.W.codeIn K cd17 "lay_ring"=true)(k17:PySem.W.keepIn K (.ref f17)=true)
  (a18:PySem.W.nsIn K mainGlobals "ring_holes"=some (some (.ref f18)))(l18:K.lookup f18=some ⟨oc18,od18,.func (PySem.W.fnOf "ring_holes" "ring_holes" (zD wG) (zC wG) (zA wG) .none kV18 dc18 pm18 an18 cd18 ct18),sl18⟩)(c18:PySem.W.codeIn K cd18 "ring_holes"=true)(k18:PySem.W.keepIn K (.ref f18)=true)
  (a19:PySem.W.nsIn K mainGlobals "first_dropped"=some (some (.ref f19)))(l19:K.lookup f19=some ⟨oc19,od19,.func (PySem.W.fnOf "first_dropped" "first_dropped" (zD vM) (zC vM) (zA vM) .none kV19 dc19 pm19 an19 cd19 ct19),sl19⟩)(c19:PySem.W.codeIn K cd19 "first_dropped"=true)(k19:PySem.W.keepIn K (.ref f19)=true)
  (a20:PySem.W.nsIn K mainGlobals "rest"=some (some (.ref f20)))(l20:K.lookup f20=some ⟨oc20,od20,.func (PySem.W.fnOf "rest" "rest" (zD zFn) (zC zFn) (zA zFn) .none kV20 dc20 pm20 an20 cd20 ct20),sl20⟩)(c20:PySem.W.codeIn K cd20 "rest"=true)(k20:PySem.W.keepIn K (.ref f20)=true)
  (a21:PySem.W.nsIn K mainGlobals "dropped"=some (some (.ref f21)))(l21:K.lookup f21=some ⟨oc21,od21,.func (PySem.W.fnOf "dropped" "dropped" (zD jT) (zC jT) (zA jT) .none kV21 dc21 pm21 an21 cd21 ct21),sl21⟩)(c21:PySem.W.codeIn K cd21 "dropped"=true)(k21:PySem.W.keepIn K (.ref f21)=true)
  (a22:PySem.W.nsIn K mainGlobals "value"=some (some (.ref f22)))(l22:K.lookup f22=some ⟨oc22,od22,.func (PySem.W.fnOf "value" "value" (zD zCp) (zC zCp) (zA zCp) .none kV22 dc22 pm22 an22 cd22 ct22),sl22⟩)(c22:PySem.W.codeIn K cd22 "value"=true)(k22:PySem.W.keepIn K (.ref f22)=true)
  (a23:PySem.W.nsIn K mainGlobals "divisor_of_all"=some (some (.ref f23)))(l23:K.lookup f23=some ⟨oc23,od23,.func (PySem.W.fnOf "divisor_of_all" "divisor_of_all" (zD vI) (zC vI) (zA vI) .none kV23 dc23 pm23 an23 cd23 ct23),sl23⟩)(c23:PySem.W.codeIn K cd23 "divisor_of_all"=true)(k23:PySem.W.keepIn K (.ref f23)=true)
  (a24:PySem.W.nsIn K mainGlobals "whole"=some (some (.ref f24)))(l24:K.lookup f24=some ⟨oc24,od24,.func (PySem.W.fnOf "whole" "whole" (zD zCj) (zC zCj) (zA zCj) .none kV24 dc24 pm24 an24 cd24 ct24),sl24⟩)(c24:PySem.W.codeIn K cd24 "whole"=true)(k24:PySem.W.keepIn K (.ref f24)=true)
  (a25:PySem.W.nsIn K mainGlobals "on"=some (some (.ref f25)))(l25:K.lookup f25=some ⟨oc25,od25,.func (PySem.W.fnOf "on" "on" (zD s_on) (zC s_on) (zA s_on) .none kV25 dc25 pm25 an25 cd25 ct25),sl25⟩)(c25:PySem.W.codeIn K cd25 "on"=true)(k25:PySem.W.keepIn K (.ref f25)=true)
  (a26:PySem.W.nsIn K mainGlobals "joint_wheel"=some (some (.ref f26)))(l26:K.lookup f26=some ⟨oc26,od26,.func (PySem.W.fnOf "joint_wheel" "joint_wheel" (zD wA) (zC wA) (zA wA) .none kV26 dc26 pm26 an26 cd26 ct26),sl26⟩)(c26:PySem.W.codeIn K cd26 "joint_wheel"=true)(k26:PySem.W.keepIn K (.ref f26)=true)
  (a27:PySem.W.nsIn K mainGlobals "raised"=some (some (.ref f27)))(l27:K.lookup f27=some ⟨oc27,od27,.func (PySem.W.fnOf "raised" "raised" (zD zAf) (zC zAf) (zA zAf) .none kV27 dc27 pm27 an27 cd27 ct27),sl27⟩)(c27:PySem.W.codeIn K cd27 "raised"=true)(k27:PySem.W.keepIn K (.ref f27)=true)
  (a28:PySem.W.nsIn K mainGlobals "added"=some (some (.ref f28)))(l28:K.lookup f28=some ⟨oc28,od28,.func (PySem.W.fnOf "added" "added" (zD zCu) (zC zCu) (zA zCu) .none kV28 dc28 pm28 an28 cd28 ct28),sl28⟩)(c28:PySem.W.codeIn K cd28 "added"=true)(k28:PySem.W.keepIn K (.ref f28)=true)
  (a29:PySem.W.nsIn K mainGlobals "times"=some (some (.ref f29)))(l29:K.lookup f29=some ⟨oc29,od29,.func (PySem.W.fnOf "times" "times" (zD zEf) (zC zEf) (zA zEf) .none kV29 dc29 pm29 an29 cd29 ct29),sl29⟩)(c29:PySem.W.codeIn K cd29 "times"=true)(k29:PySem.W.keepIn K (.ref f29)=true)
  (a30:PySem.W.nsIn K mainGlobals "side"=some (some (.ref f30)))(l30:K.lookup f30=some ⟨oc30,od30,.func (PySem.W.fnOf "side" "side" (zD zFm) (zC zFm) (zA zFm) .none kV30 dc30 pm30 an30 cd30 ct30),sl30⟩)(c30:PySem.W.codeIn K cd30 "side"=true)(k30:PySem.W.keepIn K (.ref f30)=true)
  (a31:PySem.W.nsIn K mainGlobals "check_sided"=some (some (.ref f31)))(l31:K.lookup f31=some ⟨oc31,od31,.func (PySem.W.fnOf "check_sided" "check_sided" (zD wC) (zC wC) (zA wC) .none kV31 dc31 pm31 an31 cd31 ct31),sl31⟩)(c31:PySem.W.codeIn K cd31 "check_sided"=true)(k31:PySem.W.keepIn K (.ref f31)=true)
  (a32:PySem.W.nsIn K mainGlobals "sides"=some (some (.ref f32)))(l32:K.lookup f32=some ⟨oc32,od32,.func (PySem.W.fnOf "sides" "sides" (zD zCt) (zC zCt) (zA zCt) .none kV32 dc32 pm32 an32 cd32 ct32),sl32⟩)(c32:PySem.W.codeIn K cd32 "sides"=true)(k32:PySem.W.keepIn K (.ref f32)=true)
  (a33:PySem.W.nsIn K mainGlobals "side_sum"=some (some (.ref f33)))(l33:K.lookup f33=some ⟨oc33,od33,.func (PySem.W.fnOf "side_sum" "side_sum" (zD w6) (zC w6) (zA w6) .none kV33 dc33 pm33 an33 cd33 ct33),sl33⟩)(c33:PySem.W.codeIn K cd33 "side_sum"=true)(k33:PySem.W.keepIn K (.ref f33)=true)
  (a34:PySem.W.nsIn K mainGlobals "side_product"=some (some (.ref f34)))(l34:K.lookup f34=some ⟨oc34,od34,.func (PySem.W.fnOf "side_product" "side_product" (zD vS) (zC vS) (zA vS) .none kV34 dc34 pm34 an34 cd34 ct34),sl34⟩)(c34:PySem.W.codeIn K cd34 "side_product"=true)(k34:PySem.W.keepIn K (.ref f34)=true)
  (a35:PySem.W.nsIn K mainGlobals "powers_outside"=some (some (.ref f35)))(l35:K.lookup f35=some ⟨oc35,od35,.func (PySem.W.fnOf "powers_outside" "powers_outside" (zD vQ) (zC vQ) (zA vQ) .none kV35 dc35 pm35 an35 cd35 ct35),sl35⟩)(c35:PySem.W.codeIn K cd35 "powers_outside"=true)(k35:PySem.W.keepIn K (.ref f35)=true)
  (a36:PySem.W.nsIn K mainGlobals "product_by_powers"=some (some (.ref f36)))(l36:K.lookup f36=some ⟨oc36,od36,.func (PySem.W.fnOf "product_by_powers" "product_by_powers" (zD vF) (zC vF) (zA vF) .none kV36 dc36 pm36 an36 cd36 ct36),sl36⟩)(c36:PySem.W.codeIn K cd36 "product_by_powers"=true)(k36:PySem.W.keepIn K (.ref f36)=true)
  (a37:PySem.W.nsIn K mainGlobals "joined"=some (some (.ref f37)))(l37:K.lookup f37=some ⟨oc37,od37,.func (PySem.W.fnOf "joined" "joined" (zD zBm) (zC zBm) (zA zBm) .none kV37 dc37 pm37 an37 cd37 ct37),sl37⟩)(c37:PySem.W.codeIn K cd37 "joined"=true)(k37:PySem.W.keepIn K (.ref f37)=true)
  (a38:PySem.W.nsIn K mainGlobals "_law_cell_at"=some (some (.ref f38)))(l38:K.lookup f38=some ⟨oc38,od38,.func (PySem.W.fnOf "_law_cell_at" "_law_cell_at" (zD wD) (zC wD) (zA wD) .none kV38 dc38 pm38 an38 cd38 ct38),sl38⟩)(c38:PySem.W.codeIn K cd38 "_law_cell_at"=true)(k38:PySem.W.keepIn K (.ref f38)=true)
  (a39:PySem.W.nsIn K mainGlobals "_law_whole"=some (some (.ref f39)))(l39:K.lookup f39=some ⟨oc39,od39,.func (PySem.W.fnOf "_law_whole" "_law_whole" (zD wS) (zC wS) (zA wS) .none kV39 dc39 pm39 an39 cd39 ct39),sl39⟩)(c39:PySem.W.codeIn K cd39 "_law_whole"=true)(k39:PySem.W.keepIn K (.ref f39)=true)
  (a40:PySem.W.nsIn K mainGlobals "_law_plain"=some (some (.ref f40)))(l40:K.lookup f40=some ⟨oc40,od40,.func (PySem.W.fnOf "_law_plain" "_law_plain" (zD wQ) (zC wQ) (zA wQ) .none kV40 dc40 pm40 an40 cd40 ct40),sl40⟩)(c40:PySem.W.codeIn K cd40 "_law_plain"=true)(k40:PySem.W.keepIn K (.ref f40)=true)
  (a41:PySem.W.nsIn K mainGlobals "_law_divisor"=some (some (.ref f41)))(l41:K.lookup f41=some ⟨oc41,od41,.func (PySem.W.fnOf "_law_divisor" "_law_divisor" (zD vX) (zC vX) (zA vX) .none kV41 dc41 pm41 an41 cd41 ct41),sl41⟩)(c41:PySem.W.codeIn K cd41 "_law_divisor"=true)(k41:PySem.W.keepIn K (.ref f41)=true)
  (a42:PySem.W.nsIn K mainGlobals "_law_load"=some (some (.ref f42)))(l42:K.lookup f42=some ⟨oc42,od42,.func (PySem.W.fnOf "_law_load" "_law_load" (zD wZ) (zC wZ) (zA wZ) .none kV42 dc42 pm42 an42 cd42 ct42),sl42⟩)(c42:PySem.W.codeIn K cd42 "_law_load"=true)(k42:PySem.W.keepIn K (.ref f42)=true)
  (a43:PySem.W.nsIn K mainGlobals "_law_skipped"=some (some (.ref f43)))(l43:K.lookup f43=some ⟨oc43,od43,.func (PySem.W.fnOf "_law_skipped" "_law_skipped" (zD v7) (zC v7) (zA v7) .none kV43 dc43 pm43 an43 cd43 ct43),sl43⟩)(c43:PySem.W.codeIn K cd43 "_law_skipped"=true)(k43:PySem.W.keepIn K (.ref f43)=true)
  (a44:PySem.W.nsIn K mainGlobals "_law_gathered"=some (some (.ref f44)))(l44:K.lookup f44=some ⟨oc44,od44,.func (PySem.W.fnOf "_law_gathered" "_law_gathered" (zD vR) (zC vR) (zA vR) .none kV44 dc44 pm44 an44 cd44 ct44),sl44⟩)(c44:PySem.W.codeIn K cd44 "_law_gathered"=true)(k44:PySem.W.keepIn K (.ref f44)=true)
  (a45:PySem.W.nsIn K mainGlobals "_law_bottom"=some (some (.ref f45)))(l45:K.lookup f45=some ⟨oc45,od45,.func (PySem.W.fnOf "_law_bottom" "_law_bottom" (zD wI) (zC wI) (zA wI) .none kV45 dc45 pm45 an45 cd45 ct45),sl45⟩)(c45:PySem.W.codeIn K cd45 "_law_bottom"=true)(k45:PySem.W.keepIn K (.ref f45)=true)
  (a46:PySem.W.nsIn K mainGlobals "_law_ask"=some (some (.ref f46)))(l46:K.lookup f46=some ⟨oc46,od46,.func (PySem.W.fnOf "_law_ask" "_law_ask" (zD jV) (zC jV) (zA jV) .none kV46 dc46 pm46 an46 cd46 ct46),sl46⟩)(c46:PySem.W.codeIn K cd46 "_law_ask"=true)(k46:PySem.W.keepIn K (.ref f46)=true)
  (a47:PySem.W.nsIn K mainGlobals "_law_refused"=some (some (.ref f47)))(l47:K.lookup f47=some ⟨oc47,od47,.func (PySem.W.fnOf "_law_refused" "_law_refused" (zD wB) (zC wB) (zA wB) .none kV47 dc47 pm47 an47 cd47 ct47),sl47⟩)(c47:PySem.W.codeIn K cd47 "_law_refused"=true)(k47:PySem.W.keepIn K (.ref f47)=true)
  (a48:PySem.W.nsIn K mainGlobals "_law_refused_by_base"=some (some (.ref f48)))(l48:K.lookup f48=some ⟨oc48,od48,.func (PySem.W.fnOf "_law_refused_by_base" "_law_refused_by_base" (zD zY) (zC zY) (zA zY) .none kV48 dc48 pm48 an48 cd48 ct48),sl48⟩)(c48:PySem.W.codeIn K cd48 "_law_refused_by_base"=true)(k48:PySem.W.keepIn K (.ref f48)=true)
  (a49:PySem.W.nsIn K mainGlobals "_law_wheel"=some (some (.ref f49)))(l49:K.lookup f49=some ⟨oc49,od49,.func (PySem.W.fnOf "_law_wheel" "_law_wheel" (zD wU) (zC wU) (zA wU) .none kV49 dc49 pm49 an49 cd49 ct49),sl49⟩)(c49:PySem.W.codeIn K cd49 "_law_wheel"=true)(k49:PySem.W.keepIn K (.ref f49)=true)
  (a50:PySem.W.nsIn K mainGlobals "law"=some (some (.ref f50)))(l50:K.lookup f50=some ⟨oc50,od50,.func (PySem.W.fnOf "law" "law" (zD s_law) (zC s_law) (zA s_law) .none kV50 dc50 pm50 an50 cd50 ct50),sl50⟩)(c50:PySem.W.codeIn K cd50 "law"=true)(k50:PySem.W.keepIn K (.ref f50)=true)
  (z0:PySem.W.nsIn K mainGlobals "len"=some none)
  (z1:PySem.W.nsIn K mainGlobals "isinstance"=some none)
  (z2:PySem.W.nsIn K mainGlobals "int"=some none)
  (z3:PySem.W.nsIn K mainGlobals "bool"=some none)
  (z4:PySem.W.nsIn K mainGlobals "abs"=some none)
  (z5:PySem.W.nsIn K mainGlobals "tuple"=some none)
  (z6:PySem.W.nsIn K mainGlobals "list"=some none)
  (z7:PySem.W.nsIn K mainGlobals "range"=some none)
  (z8:PySem.W.nsIn K mainGlobals "enumerate"=some none)
  (z9:PySem.W.nsIn K mainGlobals "zip"=some none)
  (z10:PySem.W.nsIn K mainGlobals "sum"=some none)
  (z11:PySem.W.nsIn K mainGlobals "all"=some none)
  (z12:PySem.W.nsIn K mainGlobals "sorted"=some none)
  (z13:PySem.W.nsIn K mainGlobals "ValueError"=some none)
  (z14:PySem.W.nsIn K mainGlobals "min"=some none)
  {t_MOST_HOLES:Tok}(ag_MOST_HOLES:PySem.W.nsIn K mainGlobals "MOST_HOLES"=some (some (.int 420 t_MOST_HOLES)))
  {t_LEAD_BITS:Tok}(ag_LEAD_BITS:PySem.W.nsIn K mainGlobals "LEAD_BITS"=some (some (.int 128 t_LEAD_BITS)))
  {t_MOST_HOLES_SIDED:Tok}(ag_MOST_HOLES_SIDED:PySem.W.nsIn K mainGlobals "MOST_HOLES_SIDED"=some (some (.int 60 t_MOST_HOLES_SIDED)))
  {C_HubError:Addr}(ac_HubError:PySem.W.nsIn K mainGlobals "HubError"=some (some (.ref C_HubError)))
  {C_NoTurn:Addr}(ac_NoTurn:PySem.W.nsIn K mainGlobals "NoTurn"=some (some (.ref C_NoTurn)))
  {C_NoFit:Addr}(ac_NoFit:PySem.W.nsIn K mainGlobals "NoFit"=some (some (.ref C_NoFit)))
  {C_TooWide:Addr}(ac_TooWide:PySem.W.nsIn K mainGlobals "TooWide"=some (some (.ref C_TooWide)))
  {C_NoRing:Addr}(ac_NoRing:PySem.W.nsIn K mainGlobals "NoRing"=some (some (.ref C_NoRing)))
  {C_NoHole:Addr}(ac_NoHole:PySem.W.nsIn K mainGlobals "NoHole"=some (some (.ref C_NoHole)))
  {C_NoWheel:Addr}(ac_NoWheel:PySem.W.nsIn K mainGlobals "NoWheel"=some (some (.ref C_NoWheel)))
  {C_NoNumber:Addr}(ac_NoNumber:PySem.W.nsIn K mainGlobals "NoNumber"=some (some (.ref C_NoNumber)))
  {C_NoQuotient:Addr}(ac_NoQuotient:PySem.W.nsIn K mainGlobals "NoQuotient"=some (some (.ref C_NoQuotient)))
  {C_NoText:Addr}(ac_NoText:PySem.W.nsIn K mainGlobals "NoText"=some (some (.ref C_NoText)))
  {C_NoName:Addr}(ac_NoName:PySem.W.nsIn K mainGlobals "NoName"=some (some (.ref C_NoName)))
  {C_NoRow:Addr}(ac_NoRow:PySem.W.nsIn K mainGlobals "NoRow"=some (some (.ref C_NoRow)))
  (f_x_TooWide:PySem.W.excIn K C_TooWide [.type "ValueError",.type "Exception",.type "BaseException",.type "object"] "ValueError.__new__"=true)
  (f_m_TooWide_TooWide:PySem.W.exmOne K (.ref C_TooWide) (.ref C_TooWide)=some true)
  (f_m_TooWide_HubError:PySem.W.exmOne K (.ref C_TooWide) (.ref C_HubError)=some true)
  (f_e_TooWide:ExcK K C_TooWide)
  (f_i_TooWide_ValueError:PySem.W.kitOne K (.ref C_TooWide) (.type "ValueError")=some true)
  (f_j_1:PySem.W.kitAny K (.ref C_TooWide) [.ref C_NoFit,.ref C_NoHole,.ref C_NoName,.ref C_NoNumber,.ref C_NoQuotient,.ref C_NoRing]=some false)
  (f_j_2:PySem.W.kitAny K (.ref C_TooWide) [.ref C_NoRow,.ref C_NoText,.ref C_NoTurn,.ref C_NoWheel]=some false)
  : ∃ fd:FuncData,(∀ (s:Shared)(v:Value),BindsTo s fd ⟨[v],[]⟩ [("script",v)])∧∀ base:Heap,K.In base→base.Ns mainGlobals mg→zFo l.prog w K mg base CX0 13 fa fd ["script"] (spLaw K):=by
 have e:=hfa.symm.trans (PySem.W.mg_of X G a50)
 cases e
 have F0:=zT (st:=jR) l0 c0 k0
 have F1:=zT (st:=zCq) l1 c1 k1
 have F2:=zT (st:=zAi) l2 c2 k2
 have F3:=zT (st:=wV) l3 c3 k3
 have F4:=zT (st:=wT) l4 c4 k4
 have F5:=zT (st:=jE) l5 c5 k5
 have F6:=zT (st:=zFb) l6 c6 k6
 have F7:=zT (st:=wR) l7 c7 k7
 have F8:=zT (st:=zAj) l8 c8 k8
 have F9:=zT (st:=jU) l9 c9 k9
 have F10:=zT (st:=zAd) l10 c10 k10
 have F11:=zT (st:=zAb) l11 c11 k11
 have F12:=zT (st:=zCh) l12 c12 k12
 have F13:=zT (st:=zCf) l13 c13 k13
 have F14:=zT (st:=vZ) l14 c14 k14
 have F15:=zT (st:=zCn) l15 c15 k15
 have F16:=zT (st:=zFj) l16 c16 k16
 have F17:=zT (st:=w4) l17 c17 k17
 have F18:=zT (st:=wG) l18 c18 k18
 have F19:=zT (st:=vM) l19 c19 k19
 have F20:=zT (st:=zFn) l20 c20 k20
 have F21:=zT (st:=jT) l21 c21 k21
 have F22:=zT (st:=zCp) l22 c22 k22
 have F23:=zT (st:=vI) l23 c23 k23
 have F24:=zT (st:=zCj) l24 c24 k24
 have F25:=zT (st:=s_on) l25 c25 k25
 have F26:=zT (st:=wA) l26 c26 k26
 have F27:=zT (st:=zAf) l27 c27 k27
 have F28:=zT (st:=zCu) l28 c28 k28
 have F29:=zT (st:=zEf) l29 c29 k29
 have F30:=zT (st:=zFm) l30 c30 k30
 have F31:=zT (st:=wC) l31 c31 k31
 have F32:=zT (st:=zCt) l32 c32 k32
 have F33:=zT (st:=w6) l33 c33 k33
 have F34:=zT (st:=vS) l34 c34 k34
 have F35:=zT (st:=vQ) l35 c35 k35
 have F36:=zT (st:=vF) l36 c36 k36
 have F37:=zT (st:=zBm) l37 c37 k37
 have F38:=zT (st:=wD) l38 c38 k38
 have F39:=zT (st:=wS) l39 c39 k39
 have F40:=zT (st:=wQ) l40 c40 k40
 have F41:=zT (st:=vX) l41 c41 k41
 have F42:=zT (st:=wZ) l42 c42 k42
 have F43:=zT (st:=v7) l43 c43 k43
 have F44:=zT (st:=vR) l44 c44 k44
 have F45:=zT (st:=wI) l45 c45 k45
 have F46:=zT (st:=jV) l46 c46 k46
 have F47:=zT (st:=wB) l47 c47 k47
 have F48:=zT (st:=zY) l48 c48 k48
 have F49:=zT (st:=wU) l49 c49 k49
 have F50:=zT (st:=s_law) l50 c50 k50
 have b0:=F0.binds (ps:=["one","other"]) fun _ _ _ _ _ _ us hl=>match us,hl with | [_,_],_=>rfl
 have b1:=F1.binds (ps:=["one","other"]) fun _ _ _ _ _ _ us hl=>match us,hl with | [_,_],_=>rfl
 have b2:=F2.binds (ps:=["one","other","bits"]) fun _ _ _ _ _ _ us hl=>match us,hl with | [_,_,_],_=>rfl
 have b3:=F3.binds (ps:=["pair","turn"]) fun _ _ _ _ _ _ us hl=>match us,hl with | [_,_],_=>rfl
 have b4:=F4.binds (ps:=["rests","bits"]) fun _ _ _ _ _ _ us hl=>match us,hl with | [_,_],_=>rfl
 have b5:=F5.binds (ps:=["rest","later_rest"]) fun _ _ _ _ _ _ us hl=>match us,hl with | [_,_],_=>rfl
 have b6:=F6.binds (ps:=["one","other"]) fun _ _ _ _ _ _ us hl=>match us,hl with | [_,_],_=>rfl
 have b7:=F7.binds (ps:=["one","other"]) fun _ _ _ _ _ _ us hl=>match us,hl with | [_,_],_=>rfl
 have b8:=F8.binds (ps:=["load","many"]) fun _ _ _ _ _ _ us hl=>match us,hl with | [_,_],_=>rfl
 have b9:=F9.binds (ps:=["load","step"]) fun _ _ _ _ _ _ us hl=>match us,hl with | [_,_],_=>rfl
 have b10:=F10.binds (ps:=["one","other"]) fun _ _ _ _ _ _ us hl=>match us,hl with | [_,_],_=>rfl
 have b11:=F11.binds (ps:=["borne","other","place"]) fun _ _ _ _ _ _ us hl=>match us,hl with | [_,_,_],_=>rfl
 have b12:=F12.binds (ps:=["load","many"]) fun _ _ _ _ _ _ us hl=>match us,hl with | [_,_],_=>rfl
 have b13:=F13.binds (ps:=["n"]) fun _ _ _ _ _ _ us hl=>match us,hl with | [_],_=>rfl
 have b14:=F14.binds (ps:=["n","p"]) fun _ _ _ _ _ _ us hl=>match us,hl with | [_,_],_=>rfl
 have b15:=F15.binds (ps:=["n"]) fun _ _ _ _ _ _ us hl=>match us,hl with | [_],_=>rfl
 have b16:=F16.binds (ps:=["step","n"]) fun _ _ _ _ _ _ us hl=>match us,hl with | [_,_],_=>rfl
 have b17:=F17.binds (ps:=["load","p","hole","many"]) fun _ _ _ _ _ _ us hl=>match us,hl with | [_,_,_,_],_=>rfl
 have b18:=F18.binds (ps:=["n","p","hole"]) fun _ _ _ _ _ _ us hl=>match us,hl with | [_,_,_],_=>rfl
 have b19:=F19.binds (ps:=["p","q"]) fun _ _ _ _ _ _ us hl=>match us,hl with | [_,_],_=>rfl
 have b20:=F20.binds (ps:=["load"]) fun _ _ _ _ _ _ us hl=>match us,hl with | [_],_=>rfl
 have b21:=F21.binds (ps:=["n","p","q"]) fun _ _ _ _ _ _ us hl=>match us,hl with | [_,_,_],_=>rfl
 have b22:=F22.binds (ps:=["load","bottom"]) fun _ _ _ _ _ _ us hl=>match us,hl with | [_,_],_=>rfl
 have b23:=F23.binds (ps:=["first","others"]) fun _ _ _ _ _ _ us hl=>match us,hl with | [_,_],_=>rfl
 have b24:=F24.binds (ps:=["many"]) fun _ _ _ _ _ _ us hl=>match us,hl with | [_],_=>rfl
 have b25:=F25.binds (ps:=["x","n"]) fun _ _ _ _ _ _ us hl=>match us,hl with | [_,_],_=>rfl
 have b26:=F26.binds (ps:=["x","y"]) fun _ _ _ _ _ _ us hl=>match us,hl with | [_,_],_=>rfl
 have b27:=F27.binds (ps:=["x","y","n"]) fun _ _ _ _ _ _ us hl=>match us,hl with | [_,_,_],_=>rfl
 have b28:=F28.binds (ps:=["x","y"]) fun _ _ _ _ _ _ us hl=>match us,hl with | [_,_],_=>rfl
 have b29:=F29.binds (ps:=["x","y"]) fun _ _ _ _ _ _ us hl=>match us,hl with | [_,_],_=>rfl
 have b30:=F30.binds (ps:=["x","step"]) fun _ _ _ _ _ _ us hl=>match us,hl with | [_,_],_=>rfl
 have b31:=F31.binds (ps:=["x"]) fun _ _ _ _ _ _ us hl=>match us,hl with | [_],_=>rfl
 have b32:=F32.binds (ps:=["x"]) fun _ _ _ _ _ _ us hl=>match us,hl with | [_],_=>rfl
 have b33:=F33.binds (ps:=["x"]) fun _ _ _ _ _ _ us hl=>match us,hl with | [_],_=>rfl
 have b34:=F34.binds (ps:=["x"]) fun _ _ _ _ _ _ us hl=>match us,hl with | [_],_=>rfl
 have b35:=F35.binds (ps:=["step","group","n"]) fun _ _ _ _ _ _ us hl=>match us,hl with | [_,_,_],_=>rfl
 have b36:=F36.binds (ps:=["x","powers"]) fun _ _ _ _ _ _ us hl=>match us,hl with | [_,_],_=>rfl
 have b37:=F37.binds (ps:=["group","powers","n"]) fun _ _ _ _ _ _ us hl=>match us,hl with | [_,_,_],_=>rfl
 have b38:=F38.binds (ps:=["script","k"]) fun _ _ _ _ _ _ us hl=>match us,hl with | [_,_],_=>rfl
 have b39:=F39.binds (ps:=["found"]) fun _ _ _ _ _ _ us hl=>match us,hl with | [_],_=>rfl
 have b40:=F40.binds (ps:=["found"]) fun _ _ _ _ _ _ us hl=>match us,hl with | [_],_=>rfl
 have b41:=F41.binds (ps:=["one","other"]) fun _ _ _ _ _ _ us hl=>match us,hl with | [_,_],_=>rfl
 have b42:=F42.binds (ps:=["n","cells","far","most"]) fun _ _ _ _ _ _ us hl=>match us,hl with | [_,_,_,_],_=>rfl
 have b43:=F43.binds (ps:=["weights","step"]) fun _ _ _ _ _ _ us hl=>match us,hl with | [_,_],_=>rfl
 have b44:=F44.binds (ps:=["load","step"]) fun _ _ _ _ _ _ us hl=>match us,hl with | [_,_],_=>rfl
 have b45:=F45.binds (ps:=["cell","most"]) fun _ _ _ _ _ _ us hl=>match us,hl with | [_,_],_=>rfl
 have b46:=F46.binds (ps:=["which","x"]) fun _ _ _ _ _ _ us hl=>match us,hl with | [_,_],_=>rfl
 have b47:=F47.binds (ps:=["which","x"]) fun _ _ _ _ _ _ us hl=>match us,hl with | [_,_],_=>rfl
 have b48:=F48.binds (ps:=["which","x"]) fun _ _ _ _ _ _ us hl=>match us,hl with | [_,_],_=>rfl
 have b49:=F49.binds (ps:=["cell"]) fun _ _ _ _ _ _ us hl=>match us,hl with | [_],_=>rfl
 have T:Txt K mg C_HubError C_NoTurn C_NoFit C_TooWide C_NoRing C_NoHole C_NoWheel C_NoNumber C_NoQuotient C_NoText C_NoName C_NoRow t_MOST_HOLES t_LEAD_BITS t_MOST_HOLES_SIDED:=⟨PySem.W.mg_of X G ag_MOST_HOLES,PySem.W.mg_of X G ag_LEAD_BITS,PySem.W.mg_of X G ag_MOST_HOLES_SIDED,PySem.W.mg_of X G ac_HubError,PySem.W.mg_of X G ac_NoTurn,PySem.W.mg_of X G ac_NoFit,PySem.W.mg_of X G ac_TooWide,PySem.W.mg_of X G ac_NoRing,PySem.W.mg_of X G ac_NoHole,PySem.W.mg_of X G ac_NoWheel,PySem.W.mg_of X G ac_NoNumber,PySem.W.mg_of X G ac_NoQuotient,PySem.W.mg_of X G ac_NoText,PySem.W.mg_of X G ac_NoName,PySem.W.mg_of X G ac_NoRow,f_x_TooWide,f_m_TooWide_TooWide,f_m_TooWide_HubError,f_e_TooWide,f_i_TooWide_ValueError,f_j_1,f_j_2,⟨_,_,F0,b0,PySem.W.mg_of X G a0⟩,⟨_,_,F1,b1,PySem.W.mg_of X G a1⟩,⟨_,_,F2,b2,PySem.W.mg_of X G a2⟩,⟨_,_,F3,b3,PySem.W.mg_of X G a3⟩,⟨_,_,F4,b4,PySem.W.mg_of X G a4⟩,⟨_,_,F5,b5,PySem.W.mg_of X G a5⟩,⟨_,_,F6,b6,PySem.W.mg_of X G a6⟩,⟨_,_,F7,b7,PySem.W.mg_of X G a7⟩,⟨_,_,F8,b8,PySem.W.mg_of X G a8⟩,⟨_,_,F9,b9,PySem.W.mg_of X G a9⟩,⟨_,_,F10,b10,PySem.W.mg_of X G a10⟩,⟨_,_,F11,b11,PySem.W.mg_of X G a11⟩,⟨_,_,F12,b12,PySem.W.mg_of X G a12⟩,⟨_,_,F13,b13,PySem.W.mg_of X G a13⟩,⟨_,_,F14,b14,PySem.W.mg_of X G a14⟩,⟨_,_,F15,b15,PySem.W.mg_of X G a15⟩,⟨_,_,F16,b16,PySem.W.mg_of X G a16⟩,⟨_,_,F17,b17,PySem.W.mg_of X G a17⟩,⟨_,_,F18,b18,PySem.W.mg_of X G a18⟩,⟨_,_,F19,b19,PySem.W.mg_of X G a19⟩,⟨_,_,F20,b20,PySem.W.mg_of X G a20⟩,⟨_,_,F21,b21,PySem.W.mg_of X G a21⟩,⟨_,_,F22,b22,PySem.W.mg_of X G a22⟩,⟨_,_,F23,b23,PySem.W.mg_of X G a23⟩,⟨_,_,F24,b24,PySem.W.mg_of X G a24⟩,⟨_,_,F25,b25,PySem.W.mg_of X G a25⟩,⟨_,_,F26,b26,PySem.W.mg_of X G a26⟩,⟨_,_,F27,b27,PySem.W.mg_of X G a27⟩,⟨_,_,F28,b28,PySem.W.mg_of X G a28⟩,⟨_,_,F29,b29,PySem.W.mg_of X G a29⟩,⟨_,_,F30,b30,PySem.W.mg_of X G a30⟩,⟨_,_,F31,b31,PySem.W.mg_of X G a31⟩,⟨_,_,F32,b32,PySem.W.mg_of X G a32⟩,⟨_,_,F33,b33,PySem.W.mg_of X G a33⟩,⟨_,_,F34,b34,PySem.W.mg_of X G a34⟩,⟨_,_,F35,b35,PySem.W.mg_of X G a35⟩,⟨_,_,F36,b36,PySem.W.mg_of X G a36⟩,⟨_,_,F37,b37,PySem.W.mg_of X G a37⟩,⟨_,_,F38,b38,PySem.W.mg_of X G a38⟩,⟨_,_,F39,b39,PySem.W.mg_of X G a39⟩,⟨_,_,F40,b40,PySem.W.mg_of X G a40⟩,⟨_,_,F41,b41,PySem.W.mg_of X G a41⟩,⟨_,_,F42,b42,PySem.W.mg_of X G a42⟩,⟨_,_,F43,b43,PySem.W.mg_of X G a43⟩,⟨_,_,F44,b44,PySem.W.mg_of X G a44⟩,⟨_,_,F45,b45,PySem.W.mg_of X G a45⟩,⟨_,_,F46,b46,PySem.W.mg_of X G a46⟩,⟨_,_,F47,b47,PySem.W.mg_of X G a47⟩,⟨_,_,F48,b48,PySem.W.mg_of X G a48⟩,⟨_,_,F49,b49,PySem.W.mg_of X G a49⟩,PySem.W.mg_none_of X G z0,PySem.W.mg_none_of X G z1,PySem.W.mg_none_of X G z2,PySem.W.mg_none_of X G z3,PySem.W.mg_none_of X G z4,PySem.W.mg_none_of X G z5,PySem.W.mg_none_of X G z6,PySem.W.mg_none_of X G z7,PySem.W.mg_none_of X G z8,PySem.W.mg_none_of X G z9,PySem.W.mg_none_of X G z10,PySem.W.mg_none_of X G z11,PySem.W.mg_none_of X G z12,PySem.W.mg_none_of X G z13,PySem.W.mg_none_of X G z14⟩
 exact⟨_,fun s v=>.of_eq rfl,fun base _ _=>ok_law T F50⟩
theorem walk {l:PySem.W.OpenLaw}{q:Program}{loose:List Str}{XP:(Str→Option Value)→Heap→Prop}{YP:World→Heap→Prop}{d:DefRec}{K:Params→PySem.W.Frag}(hn:l.most=some 63)(hdf:d.params.defaults=[])
  (hY:∀ (w:World)(h:Heap),YP w h→(K w.params).In h)
  (F:∀ (w:World)(mg:Str→Option Value)(fa:Addr)(h:Heap),(K w.params).In h→h.Ns mainGlobals mg→mg d.name=some (.ref fa) →
   ∃ fd:FuncData,(∀ (s:Shared)(u:Value),BindsTo s fd ⟨[u],[]⟩ [("script",u)])∧∀ base:Heap,(K w.params).In base→base.Ns mainGlobals mg→zFo l.prog w (K w.params) mg base CX0 13 fa fd ["script"] (spLaw (K w.params))) :
  PySem.W.WalkO q loose XP YP l.row.toRowW d [] (fun f vs=>PySem.call f vs) :=
 L2.walk_of (n:=63) (k:=13) (x:="script") (CX:=fun _=>CX0) (sp:=fun w=>spLaw (K w.params)) hn (by decide) hdf ⟨rfl,by decide,by decide⟩ hY F (fun _ _ a ns hl _ hS=>⟨a,ns,rfl,hS,hl,fun _=>rfl⟩) fun _ _ _ _ _ z=>z
end K59
namespace PwT
open PySem
noncomputable def nth (l:List Str):Nat→Str:=@List.rec Str (fun _=>Nat→Str) (fun _=>⟨#[]⟩) (fun a _ ih n=>@Nat.rec (fun _=>Str) a (fun m _=>ih m) n) l
noncomputable def A:List Str:=[Str.ofString "_law_ask",Str.ofString "which",Str.ofString "x",Str.ofString "sides",Str.ofString "side_sum",Str.ofString "side_product",Str.ofString "_law_refused",Str.ofString "sure",Str.ofString "other",Str.ofString "TooWide",Str.ofString "e",Str.ofString "isinstance",Str.ofString "NoFit",Str.ofString "NoHole",Str.ofString "NoName",Str.ofString "NoNumber",Str.ofString "NoQuotient",Str.ofString "NoRing",Str.ofString "NoRow",Str.ofString "NoText",Str.ofString "NoTurn",Str.ofString "NoWheel",Str.ofString "_law_refused_by_base",Str.ofString "HubError",Str.ofString "ValueError",Str.ofString "_law_wheel",Str.ofString "cell",Str.ofString "law",Str.ofString "script",Str.ofString "n",Str.ofString "_law_cell_at",Str.ofString "load",Str.ofString "_law_load",Str.ofString "_law_gathered",Str.ofString "value",Str.ofString "_law_bottom",Str.ofString "_law_plain",Str.ofString "all",Str.ofString "k",Str.ofString "range",Str.ofString ".0",Str.ofString "free",Str.ofString "u",Str.ofString "_law_divisor",Str.ofString "due",Str.ofString "one",Str.ofString "side",Str.ofString "append",Str.ofString "found",Str.ofString "list",Str.ofString "len",Str.ofString "sorted",Str.ofString "fast",Str.ofString "abs",Str.ofString "cells",Str.ofString "far",Str.ofString "most",Str.ofString "at",Str.ofString "_law_skipped",Str.ofString "weights",Str.ofString "step",Str.ofString "again",Str.ofString "zip",Str.ofString "joined",Str.ofString "group",Str.ofString "powers",Str.ofString "power",Str.ofString "extend",Str.ofString "__name__",Str.ofString "law_evenhub_k59_all_sides",Str.ofString "_law_whole",Str.ofString "int",Str.ofString "bool",Str.ofString "tuple",Str.ofString "weight",Str.ofString "outcome",Str.ofString "whole",Str.ofString "added",Str.ofString "check_sided",Str.ofString "units",Str.ofString "powers_outside",Str.ofString "product_by_powers",Str.ofString "many",Str.ofString "half",Str.ofString "times",Str.ofString "evenhub.sides",Str.ofString "MOST_HOLES_SIDED",Str.ofString "skipped",Str.ofString "all sides are told of values on wheels of at most ",Str.ofString " holes",Str.ofString "on",Str.ofString "the number of holes of the value's own wheel doesn't divide that of the other",Str.ofString "finer",Str.ofString "joint_wheel",Str.ofString "y",Str.ofString "joint",Str.ofString "MOST_HOLES",Str.ofString "the joint wheel of both values would have more than ",Str.ofString "raised",Str.ofString "scaled",Str.ofString "plus",Str.ofString "laid_on",Str.ofString "dropped",Str.ofString "p",Str.ofString "q",Str.ofString "lead",Str.ofString "back",Str.ofString "hole",Str.ofString "first_dropped",Str.ofString "evenhub.tellings",Str.ofString "bottom",Str.ofString "a load is not divided by 0",Str.ofString "left",Str.ofString "rest",Str.ofString "divisor_of_all",Str.ofString "enumerate",Str.ofString "by",Str.ofString "first",Str.ofString "others",Str.ofString "number",Str.ofString "divisor",Str.ofString "ring_holes",Str.ofString "evenhub.rests",Str.ofString "rows",Str.ofString "parts",Str.ofString "lay_ring",Str.ofString "prime_power",Str.ofString "told",Str.ofString "euclid",Str.ofString "the divisor of the step and the number isn't 1",Str.ofString "evenhub.rings",Str.ofString "place",Str.ofString "check_fit",Str.ofString "borne",Str.ofString "brought",Str.ofString "sum",Str.ofString "the finer wheel would have more than ",Str.ofString "evenhub.primes",Str.ofString "more",Str.ofString "the loads have unlike numbers of holes",Str.ofString "the divisor of the step and the number of holes isn't 1",Str.ofString "turned_on",Str.ofString "pair",Str.ofString "turn",Str.ofString "next_turn",Str.ofString "rests",Str.ofString "bits",Str.ofString "length",Str.ofString "min",Str.ofString "bit_length",Str.ofString "LEAD_BITS",Str.ofString "behind",Str.ofString "sure_turn",Str.ofString "later_rest",Str.ofString "new_rest",Str.ofString "further",Str.ofString "doubt",Str.ofString "max",Str.ofString "evenhub.loads",Str.ofString "evenhub.wholes",Str.ofString "great",Str.ofString "small",Str.ofString "counts",Str.ofString "evenhub.errors",Str.ofString "/claim/cut.py"]
noncomputable def B:List Str:=[⟨#[95,108,97,119,95,97,115,107]⟩,⟨#[119,104,105,99,104]⟩,⟨#[120]⟩,⟨#[115,105,100,101,115]⟩,⟨#[115,105,100,101,95,115,117,109]⟩,⟨#[115,105,100,101,95,112,114,111,100,117,99,116]⟩,⟨#[95,108,97,119,95,114,101,102,117,115,101,100]⟩,⟨#[115,117,114,101]⟩,⟨#[111,116,104,101,114]⟩,⟨#[84,111,111,87,105,100,101]⟩,⟨#[101]⟩,⟨#[105,115,105,110,115,116,97,110,99,101]⟩,⟨#[78,111,70,105,116]⟩,⟨#[78,111,72,111,108,101]⟩,⟨#[78,111,78,97,109,101]⟩,⟨#[78,111,78,117,109,98,101,114]⟩,⟨#[78,111,81,117,111,116,105,101,110,116]⟩,⟨#[78,111,82,105,110,103]⟩,⟨#[78,111,82,111,119]⟩,⟨#[78,111,84,101,120,116]⟩,⟨#[78,111,84,117,114,110]⟩,⟨#[78,111,87,104,101,101,108]⟩,⟨#[95,108,97,119,95,114,101,102,117,115,101,100,95,98,121,95,98,97,115,101]⟩,⟨#[72,117,98,69,114,114,111,114]⟩,⟨#[86,97,108,117,101,69,114,114,111,114]⟩,⟨#[95,108,97,119,95,119,104,101,101,108]⟩,⟨#[99,101,108,108]⟩,⟨#[108,97,119]⟩,⟨#[115,99,114,105,112,116]⟩,⟨#[110]⟩,⟨#[95,108,97,119,95,99,101,108,108,95,97,116]⟩,⟨#[108,111,97,100]⟩,⟨#[95,108,97,119,95,108,111,97,100]⟩,⟨#[95,108,97,119,95,103,97,116,104,101,114,101,100]⟩,⟨#[118,97,108,117,101]⟩,⟨#[95,108,97,119,95,98,111,116,116,111,109]⟩,⟨#[95,108,97,119,95,112,108,97,105,110]⟩,⟨#[97,108,108]⟩,⟨#[107]⟩,⟨#[114,97,110,103,101]⟩,⟨#[46,48]⟩,⟨#[102,114,101,101]⟩,⟨#[117]⟩,⟨#[95,108,97,119,95,100,105,118,105,115,111,114]⟩,⟨#[100,117,101]⟩,⟨#[111,110,101]⟩,⟨#[115,105,100,101]⟩,⟨#[97,112,112,101,110,100]⟩,⟨#[102,111,117,110,100]⟩,⟨#[108,105,115,116]⟩,⟨#[108,101,110]⟩,⟨#[115,111,114,116,101,100]⟩,⟨#[102,97,115,116]⟩,⟨#[97,98,115]⟩,⟨#[99,101,108,108,115]⟩,⟨#[102,97,114]⟩,⟨#[109,111,115,116]⟩,⟨#[97,116]⟩,⟨#[95,108,97,119,95,115,107,105,112,112,101,100]⟩,⟨#[119,101,105,103,104,116,115]⟩,⟨#[115,116,101,112]⟩,⟨#[97,103,97,105,110]⟩,⟨#[122,105,112]⟩,⟨#[106,111,105,110,101,100]⟩,⟨#[103,114,111,117,112]⟩,⟨#[112,111,119,101,114,115]⟩,⟨#[112,111,119,101,114]⟩,⟨#[101,120,116,101,110,100]⟩,⟨#[95,95,110,97,109,101,95,95]⟩,⟨#[108,97,119,95,101,118,101,110,104,117,98,95,107,53,57,95,97,108,108,95,115,105,100,101,115]⟩,⟨#[95,108,97,119,95,119,104,111,108,101]⟩,⟨#[105,110,116]⟩,⟨#[98,111,111,108]⟩,⟨#[116,117,112,108,101]⟩,⟨#[119,101,105,103,104,116]⟩,⟨#[111,117,116,99,111,109,101]⟩,⟨#[119,104,111,108,101]⟩,⟨#[97,100,100,101,100]⟩,⟨#[99,104,101,99,107,95,115,105,100,101,100]⟩,⟨#[117,110,105,116,115]⟩,⟨#[112,111,119,101,114,115,95,111,117,116,115,105,100,101]⟩,⟨#[112,114,111,100,117,99,116,95,98,121,95,112,111,119,101,114,115]⟩,⟨#[109,97,110,121]⟩,⟨#[104,97,108,102]⟩,⟨#[116,105,109,101,115]⟩,⟨#[101,118,101,110,104,117,98,46,115,105,100,101,115]⟩,⟨#[77,79,83,84,95,72,79,76,69,83,95,83,73,68,69,68]⟩,⟨#[115,107,105,112,112,101,100]⟩,⟨#[97,108,108,32,115,105,100,101,115,32,97,114,101,32,116,111,108,100,32,111,102,32,118,97,108,117,101,115,32,111,110,32,119,104,101,101,108,115,32,111,102,32,97,116,32,109,111,115,116,32]⟩,⟨#[32,104,111,108,101,115]⟩,⟨#[111,110]⟩,⟨#[116,104,101,32,110,117,109,98,101,114,32,111,102,32,104,111,108,101,115,32,111,102,32,116,104,101,32,118,97,108,117,101,39,115,32,111,119,110,32,119,104,101,101,108,32,100,111,101,115,110,39,116,32,100,105,118,105,100,101,32,116,104,97,116,32,111,102,32,116,104,101,32,111,116,104,101,114]⟩,⟨#[102,105,110,101,114]⟩,⟨#[106,111,105,110,116,95,119,104,101,101,108]⟩,⟨#[121]⟩,⟨#[106,111,105,110,116]⟩,⟨#[77,79,83,84,95,72,79,76,69,83]⟩,⟨#[116,104,101,32,106,111,105,110,116,32,119,104,101,101,108,32,111,102,32,98,111,116,104,32,118,97,108,117,101,115,32,119,111,117,108,100,32,104,97,118,101,32,109,111,114,101,32,116,104,97,110,32]⟩,⟨#[114,97,105,115,101,100]⟩,⟨#[115,99,97,108,101,100]⟩,⟨#[112,108,117,115]⟩,⟨#[108,97,105,100,95,111,110]⟩,⟨#[100,114,111,112,112,101,100]⟩,⟨#[112]⟩,⟨#[113]⟩,⟨#[108,101,97,100]⟩,⟨#[98,97,99,107]⟩,⟨#[104,111,108,101]⟩,⟨#[102,105,114,115,116,95,100,114,111,112,112,101,100]⟩,⟨#[101,118,101,110,104,117,98,46,116,101,108,108,105,110,103,115]⟩,⟨#[98,111,116,116,111,109]⟩,⟨#[97,32,108,111,97,100,32,105,115,32,110,111,116,32,100,105,118,105,100,101,100,32,98,121,32,48]⟩,⟨#[108,101,102,116]⟩,⟨#[114,101,115,116]⟩,⟨#[100,105,118,105,115,111,114,95,111,102,95,97,108,108]⟩,⟨#[101,110,117,109,101,114,97,116,101]⟩,⟨#[98,121]⟩,⟨#[102,105,114,115,116]⟩,⟨#[111,116,104,101,114,115]⟩,⟨#[110,117,109,98,101,114]⟩,⟨#[100,105,118,105,115,111,114]⟩,⟨#[114,105,110,103,95,104,111,108,101,115]⟩,⟨#[101,118,101,110,104,117,98,46,114,101,115,116,115]⟩,⟨#[114,111,119,115]⟩,⟨#[112,97,114,116,115]⟩,⟨#[108,97,121,95,114,105,110,103]⟩,⟨#[112,114,105,109,101,95,112,111,119,101,114]⟩,⟨#[116,111,108,100]⟩,⟨#[101,117,99,108,105,100]⟩,⟨#[116,104,101,32,100,105,118,105,115,111,114,32,111,102,32,116,104,101,32,115,116,101,112,32,97,110,100,32,116,104,101,32,110,117,109,98,101,114,32,105,115,110,39,116,32,49]⟩,⟨#[101,118,101,110,104,117,98,46,114,105,110,103,115]⟩,⟨#[112,108,97,99,101]⟩,⟨#[99,104,101,99,107,95,102,105,116]⟩,⟨#[98,111,114,110,101]⟩,⟨#[98,114,111,117,103,104,116]⟩,⟨#[115,117,109]⟩,⟨#[116,104,101,32,102,105,110,101,114,32,119,104,101,101,108,32,119,111,117,108,100,32,104,97,118,101,32,109,111,114,101,32,116,104,97,110,32]⟩,⟨#[101,118,101,110,104,117,98,46,112,114,105,109,101,115]⟩,⟨#[109,111,114,101]⟩,⟨#[116,104,101,32,108,111,97,100,115,32,104,97,118,101,32,117,110,108,105,107,101,32,110,117,109,98,101,114,115,32,111,102,32,104,111,108,101,115]⟩,⟨#[116,104,101,32,100,105,118,105,115,111,114,32,111,102,32,116,104,101,32,115,116,101,112,32,97,110,100,32,116,104,101,32,110,117,109,98,101,114,32,111,102,32,104,111,108,101,115,32,105,115,110,39,116,32,49]⟩,⟨#[116,117,114,110,101,100,95,111,110]⟩,⟨#[112,97,105,114]⟩,⟨#[116,117,114,110]⟩,⟨#[110,101,120,116,95,116,117,114,110]⟩,⟨#[114,101,115,116,115]⟩,⟨#[98,105,116,115]⟩,⟨#[108,101,110,103,116,104]⟩,⟨#[109,105,110]⟩,⟨#[98,105,116,95,108,101,110,103,116,104]⟩,⟨#[76,69,65,68,95,66,73,84,83]⟩,⟨#[98,101,104,105,110,100]⟩,⟨#[115,117,114,101,95,116,117,114,110]⟩,⟨#[108,97,116,101,114,95,114,101,115,116]⟩,⟨#[110,101,119,95,114,101,115,116]⟩,⟨#[102,117,114,116,104,101,114]⟩,⟨#[100,111,117,98,116]⟩,⟨#[109,97,120]⟩,⟨#[101,118,101,110,104,117,98,46,108,111,97,100,115]⟩,⟨#[101,118,101,110,104,117,98,46,119,104,111,108,101,115]⟩,⟨#[103,114,101,97,116]⟩,⟨#[115,109,97,108,108]⟩,⟨#[99,111,117,110,116,115]⟩,⟨#[101,118,101,110,104,117,98,46,101,114,114,111,114,115]⟩,⟨#[47,99,108,97,105,109,47,99,117,116,46,112,121]⟩]
theorem a0:Str.ofString "_law_ask"=nth A 0:=rfl
theorem b0:nth B 0=⟨#[95,108,97,119,95,97,115,107]⟩:=rfl
theorem a1:Str.ofString "which"=nth A 1:=rfl
theorem b1:nth B 1=⟨#[119,104,105,99,104]⟩:=rfl
theorem a2:Str.ofString "x"=nth A 2:=rfl
theorem b2:nth B 2=⟨#[120]⟩:=rfl
theorem a3:Str.ofString "sides"=nth A 3:=rfl
theorem b3:nth B 3=⟨#[115,105,100,101,115]⟩:=rfl
theorem a4:Str.ofString "side_sum"=nth A 4:=rfl
theorem b4:nth B 4=⟨#[115,105,100,101,95,115,117,109]⟩:=rfl
theorem a5:Str.ofString "side_product"=nth A 5:=rfl
theorem b5:nth B 5=⟨#[115,105,100,101,95,112,114,111,100,117,99,116]⟩:=rfl
theorem a6:Str.ofString "_law_refused"=nth A 6:=rfl
theorem b6:nth B 6=⟨#[95,108,97,119,95,114,101,102,117,115,101,100]⟩:=rfl
theorem a7:Str.ofString "sure"=nth A 7:=rfl
theorem b7:nth B 7=⟨#[115,117,114,101]⟩:=rfl
theorem a8:Str.ofString "other"=nth A 8:=rfl
theorem b8:nth B 8=⟨#[111,116,104,101,114]⟩:=rfl
theorem a9:Str.ofString "TooWide"=nth A 9:=rfl
theorem b9:nth B 9=⟨#[84,111,111,87,105,100,101]⟩:=rfl
theorem a10:Str.ofString "e"=nth A 10:=rfl
theorem b10:nth B 10=⟨#[101]⟩:=rfl
theorem a11:Str.ofString "isinstance"=nth A 11:=rfl
theorem b11:nth B 11=⟨#[105,115,105,110,115,116,97,110,99,101]⟩:=rfl
theorem a12:Str.ofString "NoFit"=nth A 12:=rfl
theorem b12:nth B 12=⟨#[78,111,70,105,116]⟩:=rfl
theorem a13:Str.ofString "NoHole"=nth A 13:=rfl
theorem b13:nth B 13=⟨#[78,111,72,111,108,101]⟩:=rfl
theorem a14:Str.ofString "NoName"=nth A 14:=rfl
theorem b14:nth B 14=⟨#[78,111,78,97,109,101]⟩:=rfl
theorem a15:Str.ofString "NoNumber"=nth A 15:=rfl
theorem b15:nth B 15=⟨#[78,111,78,117,109,98,101,114]⟩:=rfl
theorem a16:Str.ofString "NoQuotient"=nth A 16:=rfl
theorem b16:nth B 16=⟨#[78,111,81,117,111,116,105,101,110,116]⟩:=rfl
theorem a17:Str.ofString "NoRing"=nth A 17:=rfl
theorem b17:nth B 17=⟨#[78,111,82,105,110,103]⟩:=rfl
theorem a18:Str.ofString "NoRow"=nth A 18:=rfl
theorem b18:nth B 18=⟨#[78,111,82,111,119]⟩:=rfl
theorem a19:Str.ofString "NoText"=nth A 19:=rfl
theorem b19:nth B 19=⟨#[78,111,84,101,120,116]⟩:=rfl
theorem a20:Str.ofString "NoTurn"=nth A 20:=rfl
theorem b20:nth B 20=⟨#[78,111,84,117,114,110]⟩:=rfl
theorem a21:Str.ofString "NoWheel"=nth A 21:=rfl
theorem b21:nth B 21=⟨#[78,111,87,104,101,101,108]⟩:=rfl
theorem a22:Str.ofString "_law_refused_by_base"=nth A 22:=rfl
theorem b22:nth B 22=⟨#[95,108,97,119,95,114,101,102,117,115,101,100,95,98,121,95,98,97,115,101]⟩:=rfl
theorem a23:Str.ofString "HubError"=nth A 23:=rfl
theorem b23:nth B 23=⟨#[72,117,98,69,114,114,111,114]⟩:=rfl
theorem a24:Str.ofString "ValueError"=nth A 24:=rfl
theorem b24:nth B 24=⟨#[86,97,108,117,101,69,114,114,111,114]⟩:=rfl
theorem a25:Str.ofString "_law_wheel"=nth A 25:=rfl
theorem b25:nth B 25=⟨#[95,108,97,119,95,119,104,101,101,108]⟩:=rfl
theorem a26:Str.ofString "cell"=nth A 26:=rfl
theorem b26:nth B 26=⟨#[99,101,108,108]⟩:=rfl
theorem a27:Str.ofString "law"=nth A 27:=rfl
theorem b27:nth B 27=⟨#[108,97,119]⟩:=rfl
theorem a28:Str.ofString "script"=nth A 28:=rfl
theorem b28:nth B 28=⟨#[115,99,114,105,112,116]⟩:=rfl
theorem a29:Str.ofString "n"=nth A 29:=rfl
theorem b29:nth B 29=⟨#[110]⟩:=rfl
theorem a30:Str.ofString "_law_cell_at"=nth A 30:=rfl
theorem b30:nth B 30=⟨#[95,108,97,119,95,99,101,108,108,95,97,116]⟩:=rfl
theorem a31:Str.ofString "load"=nth A 31:=rfl
theorem b31:nth B 31=⟨#[108,111,97,100]⟩:=rfl
theorem a32:Str.ofString "_law_load"=nth A 32:=rfl
theorem b32:nth B 32=⟨#[95,108,97,119,95,108,111,97,100]⟩:=rfl
theorem a33:Str.ofString "_law_gathered"=nth A 33:=rfl
theorem b33:nth B 33=⟨#[95,108,97,119,95,103,97,116,104,101,114,101,100]⟩:=rfl
theorem a34:Str.ofString "value"=nth A 34:=rfl
theorem b34:nth B 34=⟨#[118,97,108,117,101]⟩:=rfl
theorem a35:Str.ofString "_law_bottom"=nth A 35:=rfl
theorem b35:nth B 35=⟨#[95,108,97,119,95,98,111,116,116,111,109]⟩:=rfl
theorem a36:Str.ofString "_law_plain"=nth A 36:=rfl
theorem b36:nth B 36=⟨#[95,108,97,119,95,112,108,97,105,110]⟩:=rfl
theorem a37:Str.ofString "all"=nth A 37:=rfl
theorem b37:nth B 37=⟨#[97,108,108]⟩:=rfl
theorem a38:Str.ofString "k"=nth A 38:=rfl
theorem b38:nth B 38=⟨#[107]⟩:=rfl
theorem a39:Str.ofString "range"=nth A 39:=rfl
theorem b39:nth B 39=⟨#[114,97,110,103,101]⟩:=rfl
theorem a40:Str.ofString ".0"=nth A 40:=rfl
theorem b40:nth B 40=⟨#[46,48]⟩:=rfl
theorem a41:Str.ofString "free"=nth A 41:=rfl
theorem b41:nth B 41=⟨#[102,114,101,101]⟩:=rfl
theorem a42:Str.ofString "u"=nth A 42:=rfl
theorem b42:nth B 42=⟨#[117]⟩:=rfl
theorem a43:Str.ofString "_law_divisor"=nth A 43:=rfl
theorem b43:nth B 43=⟨#[95,108,97,119,95,100,105,118,105,115,111,114]⟩:=rfl
theorem a44:Str.ofString "due"=nth A 44:=rfl
theorem b44:nth B 44=⟨#[100,117,101]⟩:=rfl
theorem a45:Str.ofString "one"=nth A 45:=rfl
theorem b45:nth B 45=⟨#[111,110,101]⟩:=rfl
theorem a46:Str.ofString "side"=nth A 46:=rfl
theorem b46:nth B 46=⟨#[115,105,100,101]⟩:=rfl
theorem a47:Str.ofString "append"=nth A 47:=rfl
theorem b47:nth B 47=⟨#[97,112,112,101,110,100]⟩:=rfl
theorem a48:Str.ofString "found"=nth A 48:=rfl
theorem b48:nth B 48=⟨#[102,111,117,110,100]⟩:=rfl
theorem a49:Str.ofString "list"=nth A 49:=rfl
theorem b49:nth B 49=⟨#[108,105,115,116]⟩:=rfl
theorem a50:Str.ofString "len"=nth A 50:=rfl
theorem b50:nth B 50=⟨#[108,101,110]⟩:=rfl
theorem a51:Str.ofString "sorted"=nth A 51:=rfl
theorem b51:nth B 51=⟨#[115,111,114,116,101,100]⟩:=rfl
theorem a52:Str.ofString "fast"=nth A 52:=rfl
theorem b52:nth B 52=⟨#[102,97,115,116]⟩:=rfl
theorem a53:Str.ofString "abs"=nth A 53:=rfl
theorem b53:nth B 53=⟨#[97,98,115]⟩:=rfl
theorem a54:Str.ofString "cells"=nth A 54:=rfl
theorem b54:nth B 54=⟨#[99,101,108,108,115]⟩:=rfl
theorem a55:Str.ofString "far"=nth A 55:=rfl
theorem b55:nth B 55=⟨#[102,97,114]⟩:=rfl
theorem a56:Str.ofString "most"=nth A 56:=rfl
theorem b56:nth B 56=⟨#[109,111,115,116]⟩:=rfl
theorem a57:Str.ofString "at"=nth A 57:=rfl
theorem b57:nth B 57=⟨#[97,116]⟩:=rfl
theorem a58:Str.ofString "_law_skipped"=nth A 58:=rfl
theorem b58:nth B 58=⟨#[95,108,97,119,95,115,107,105,112,112,101,100]⟩:=rfl
theorem a59:Str.ofString "weights"=nth A 59:=rfl
theorem b59:nth B 59=⟨#[119,101,105,103,104,116,115]⟩:=rfl
theorem a60:Str.ofString "step"=nth A 60:=rfl
theorem b60:nth B 60=⟨#[115,116,101,112]⟩:=rfl
theorem a61:Str.ofString "again"=nth A 61:=rfl
theorem b61:nth B 61=⟨#[97,103,97,105,110]⟩:=rfl
theorem a62:Str.ofString "zip"=nth A 62:=rfl
theorem b62:nth B 62=⟨#[122,105,112]⟩:=rfl
theorem a63:Str.ofString "joined"=nth A 63:=rfl
theorem b63:nth B 63=⟨#[106,111,105,110,101,100]⟩:=rfl
theorem a64:Str.ofString "group"=nth A 64:=rfl
theorem b64:nth B 64=⟨#[103,114,111,117,112]⟩:=rfl
theorem a65:Str.ofString "powers"=nth A 65:=rfl
theorem b65:nth B 65=⟨#[112,111,119,101,114,115]⟩:=rfl
theorem a66:Str.ofString "power"=nth A 66:=rfl
theorem b66:nth B 66=⟨#[112,111,119,101,114]⟩:=rfl
theorem a67:Str.ofString "extend"=nth A 67:=rfl
theorem b67:nth B 67=⟨#[101,120,116,101,110,100]⟩:=rfl
theorem a68:Str.ofString "__name__"=nth A 68:=rfl
theorem b68:nth B 68=⟨#[95,95,110,97,109,101,95,95]⟩:=rfl
theorem a69:Str.ofString "law_evenhub_k59_all_sides"=nth A 69:=rfl
theorem b69:nth B 69=⟨#[108,97,119,95,101,118,101,110,104,117,98,95,107,53,57,95,97,108,108,95,115,105,100,101,115]⟩:=rfl
theorem a70:Str.ofString "_law_whole"=nth A 70:=rfl
theorem b70:nth B 70=⟨#[95,108,97,119,95,119,104,111,108,101]⟩:=rfl
theorem a71:Str.ofString "int"=nth A 71:=rfl
theorem b71:nth B 71=⟨#[105,110,116]⟩:=rfl
theorem a72:Str.ofString "bool"=nth A 72:=rfl
theorem b72:nth B 72=⟨#[98,111,111,108]⟩:=rfl
theorem a73:Str.ofString "tuple"=nth A 73:=rfl
theorem b73:nth B 73=⟨#[116,117,112,108,101]⟩:=rfl
theorem a74:Str.ofString "weight"=nth A 74:=rfl
theorem b74:nth B 74=⟨#[119,101,105,103,104,116]⟩:=rfl
theorem a75:Str.ofString "outcome"=nth A 75:=rfl
theorem b75:nth B 75=⟨#[111,117,116,99,111,109,101]⟩:=rfl
theorem a76:Str.ofString "whole"=nth A 76:=rfl
theorem b76:nth B 76=⟨#[119,104,111,108,101]⟩:=rfl
theorem a77:Str.ofString "added"=nth A 77:=rfl
theorem b77:nth B 77=⟨#[97,100,100,101,100]⟩:=rfl
theorem a78:Str.ofString "check_sided"=nth A 78:=rfl
theorem b78:nth B 78=⟨#[99,104,101,99,107,95,115,105,100,101,100]⟩:=rfl
theorem a79:Str.ofString "units"=nth A 79:=rfl
theorem b79:nth B 79=⟨#[117,110,105,116,115]⟩:=rfl
theorem a80:Str.ofString "powers_outside"=nth A 80:=rfl
theorem b80:nth B 80=⟨#[112,111,119,101,114,115,95,111,117,116,115,105,100,101]⟩:=rfl
theorem a81:Str.ofString "product_by_powers"=nth A 81:=rfl
theorem b81:nth B 81=⟨#[112,114,111,100,117,99,116,95,98,121,95,112,111,119,101,114,115]⟩:=rfl
theorem a82:Str.ofString "many"=nth A 82:=rfl
theorem b82:nth B 82=⟨#[109,97,110,121]⟩:=rfl
theorem a83:Str.ofString "half"=nth A 83:=rfl
theorem b83:nth B 83=⟨#[104,97,108,102]⟩:=rfl
theorem a84:Str.ofString "times"=nth A 84:=rfl
theorem b84:nth B 84=⟨#[116,105,109,101,115]⟩:=rfl
theorem a85:Str.ofString "evenhub.sides"=nth A 85:=rfl
theorem b85:nth B 85=⟨#[101,118,101,110,104,117,98,46,115,105,100,101,115]⟩:=rfl
theorem a86:Str.ofString "MOST_HOLES_SIDED"=nth A 86:=rfl
theorem b86:nth B 86=⟨#[77,79,83,84,95,72,79,76,69,83,95,83,73,68,69,68]⟩:=rfl
theorem a87:Str.ofString "skipped"=nth A 87:=rfl
theorem b87:nth B 87=⟨#[115,107,105,112,112,101,100]⟩:=rfl
theorem a88:Str.ofString "all sides are told of values on wheels of at most "=nth A 88:=rfl
theorem b88:nth B 88=⟨#[97,108,108,32,115,105,100,101,115,32,97,114,101,32,116,111,108,100,32,111,102,32,118,97,108,117,101,115,32,111,110,32,119,104,101,101,108,115,32,111,102,32,97,116,32,109,111,115,116,32]⟩:=rfl
theorem a89:Str.ofString " holes"=nth A 89:=rfl
theorem b89:nth B 89=⟨#[32,104,111,108,101,115]⟩:=rfl
theorem a90:Str.ofString "on"=nth A 90:=rfl
theorem b90:nth B 90=⟨#[111,110]⟩:=rfl
theorem a91:Str.ofString "the number of holes of the value's own wheel doesn't divide that of the other"=nth A 91:=rfl
theorem b91:nth B 91=⟨#[116,104,101,32,110,117,109,98,101,114,32,111,102,32,104,111,108,101,115,32,111,102,32,116,104,101,32,118,97,108,117,101,39,115,32,111,119,110,32,119,104,101,101,108,32,100,111,101,115,110,39,116,32,100,105,118,105,100,101,32,116,104,97,116,32,111,102,32,116,104,101,32,111,116,104,101,114]⟩:=rfl
theorem a92:Str.ofString "finer"=nth A 92:=rfl
theorem b92:nth B 92=⟨#[102,105,110,101,114]⟩:=rfl
theorem a93:Str.ofString "joint_wheel"=nth A 93:=rfl
theorem b93:nth B 93=⟨#[106,111,105,110,116,95,119,104,101,101,108]⟩:=rfl
theorem a94:Str.ofString "y"=nth A 94:=rfl
theorem b94:nth B 94=⟨#[121]⟩:=rfl
theorem a95:Str.ofString "joint"=nth A 95:=rfl
theorem b95:nth B 95=⟨#[106,111,105,110,116]⟩:=rfl
theorem a96:Str.ofString "MOST_HOLES"=nth A 96:=rfl
theorem b96:nth B 96=⟨#[77,79,83,84,95,72,79,76,69,83]⟩:=rfl
theorem a97:Str.ofString "the joint wheel of both values would have more than "=nth A 97:=rfl
theorem b97:nth B 97=⟨#[116,104,101,32,106,111,105,110,116,32,119,104,101,101,108,32,111,102,32,98,111,116,104,32,118,97,108,117,101,115,32,119,111,117,108,100,32,104,97,118,101,32,109,111,114,101,32,116,104,97,110,32]⟩:=rfl
theorem a98:Str.ofString "raised"=nth A 98:=rfl
theorem b98:nth B 98=⟨#[114,97,105,115,101,100]⟩:=rfl
theorem a99:Str.ofString "scaled"=nth A 99:=rfl
theorem b99:nth B 99=⟨#[115,99,97,108,101,100]⟩:=rfl
theorem a100:Str.ofString "plus"=nth A 100:=rfl
theorem b100:nth B 100=⟨#[112,108,117,115]⟩:=rfl
theorem a101:Str.ofString "laid_on"=nth A 101:=rfl
theorem b101:nth B 101=⟨#[108,97,105,100,95,111,110]⟩:=rfl
theorem a102:Str.ofString "dropped"=nth A 102:=rfl
theorem b102:nth B 102=⟨#[100,114,111,112,112,101,100]⟩:=rfl
theorem a103:Str.ofString "p"=nth A 103:=rfl
theorem b103:nth B 103=⟨#[112]⟩:=rfl
theorem a104:Str.ofString "q"=nth A 104:=rfl
theorem b104:nth B 104=⟨#[113]⟩:=rfl
theorem a105:Str.ofString "lead"=nth A 105:=rfl
theorem b105:nth B 105=⟨#[108,101,97,100]⟩:=rfl
theorem a106:Str.ofString "back"=nth A 106:=rfl
theorem b106:nth B 106=⟨#[98,97,99,107]⟩:=rfl
theorem a107:Str.ofString "hole"=nth A 107:=rfl
theorem b107:nth B 107=⟨#[104,111,108,101]⟩:=rfl
theorem a108:Str.ofString "first_dropped"=nth A 108:=rfl
theorem b108:nth B 108=⟨#[102,105,114,115,116,95,100,114,111,112,112,101,100]⟩:=rfl
theorem a109:Str.ofString "evenhub.tellings"=nth A 109:=rfl
theorem b109:nth B 109=⟨#[101,118,101,110,104,117,98,46,116,101,108,108,105,110,103,115]⟩:=rfl
theorem a110:Str.ofString "bottom"=nth A 110:=rfl
theorem b110:nth B 110=⟨#[98,111,116,116,111,109]⟩:=rfl
theorem a111:Str.ofString "a load is not divided by 0"=nth A 111:=rfl
theorem b111:nth B 111=⟨#[97,32,108,111,97,100,32,105,115,32,110,111,116,32,100,105,118,105,100,101,100,32,98,121,32,48]⟩:=rfl
theorem a112:Str.ofString "left"=nth A 112:=rfl
theorem b112:nth B 112=⟨#[108,101,102,116]⟩:=rfl
theorem a113:Str.ofString "rest"=nth A 113:=rfl
theorem b113:nth B 113=⟨#[114,101,115,116]⟩:=rfl
theorem a114:Str.ofString "divisor_of_all"=nth A 114:=rfl
theorem b114:nth B 114=⟨#[100,105,118,105,115,111,114,95,111,102,95,97,108,108]⟩:=rfl
theorem a115:Str.ofString "enumerate"=nth A 115:=rfl
theorem b115:nth B 115=⟨#[101,110,117,109,101,114,97,116,101]⟩:=rfl
theorem a116:Str.ofString "by"=nth A 116:=rfl
theorem b116:nth B 116=⟨#[98,121]⟩:=rfl
theorem a117:Str.ofString "first"=nth A 117:=rfl
theorem b117:nth B 117=⟨#[102,105,114,115,116]⟩:=rfl
theorem a118:Str.ofString "others"=nth A 118:=rfl
theorem b118:nth B 118=⟨#[111,116,104,101,114,115]⟩:=rfl
theorem a119:Str.ofString "number"=nth A 119:=rfl
theorem b119:nth B 119=⟨#[110,117,109,98,101,114]⟩:=rfl
theorem a120:Str.ofString "divisor"=nth A 120:=rfl
theorem b120:nth B 120=⟨#[100,105,118,105,115,111,114]⟩:=rfl
theorem a121:Str.ofString "ring_holes"=nth A 121:=rfl
theorem b121:nth B 121=⟨#[114,105,110,103,95,104,111,108,101,115]⟩:=rfl
theorem a122:Str.ofString "evenhub.rests"=nth A 122:=rfl
theorem b122:nth B 122=⟨#[101,118,101,110,104,117,98,46,114,101,115,116,115]⟩:=rfl
theorem a123:Str.ofString "rows"=nth A 123:=rfl
theorem b123:nth B 123=⟨#[114,111,119,115]⟩:=rfl
theorem a124:Str.ofString "parts"=nth A 124:=rfl
theorem b124:nth B 124=⟨#[112,97,114,116,115]⟩:=rfl
theorem a125:Str.ofString "lay_ring"=nth A 125:=rfl
theorem b125:nth B 125=⟨#[108,97,121,95,114,105,110,103]⟩:=rfl
theorem a126:Str.ofString "prime_power"=nth A 126:=rfl
theorem b126:nth B 126=⟨#[112,114,105,109,101,95,112,111,119,101,114]⟩:=rfl
theorem a127:Str.ofString "told"=nth A 127:=rfl
theorem b127:nth B 127=⟨#[116,111,108,100]⟩:=rfl
theorem a128:Str.ofString "euclid"=nth A 128:=rfl
theorem b128:nth B 128=⟨#[101,117,99,108,105,100]⟩:=rfl
theorem a129:Str.ofString "the divisor of the step and the number isn't 1"=nth A 129:=rfl
theorem b129:nth B 129=⟨#[116,104,101,32,100,105,118,105,115,111,114,32,111,102,32,116,104,101,32,115,116,101,112,32,97,110,100,32,116,104,101,32,110,117,109,98,101,114,32,105,115,110,39,116,32,49]⟩:=rfl
theorem a130:Str.ofString "evenhub.rings"=nth A 130:=rfl
theorem b130:nth B 130=⟨#[101,118,101,110,104,117,98,46,114,105,110,103,115]⟩:=rfl
theorem a131:Str.ofString "place"=nth A 131:=rfl
theorem b131:nth B 131=⟨#[112,108,97,99,101]⟩:=rfl
theorem a132:Str.ofString "check_fit"=nth A 132:=rfl
theorem b132:nth B 132=⟨#[99,104,101,99,107,95,102,105,116]⟩:=rfl
theorem a133:Str.ofString "borne"=nth A 133:=rfl
theorem b133:nth B 133=⟨#[98,111,114,110,101]⟩:=rfl
theorem a134:Str.ofString "brought"=nth A 134:=rfl
theorem b134:nth B 134=⟨#[98,114,111,117,103,104,116]⟩:=rfl
theorem a135:Str.ofString "sum"=nth A 135:=rfl
theorem b135:nth B 135=⟨#[115,117,109]⟩:=rfl
theorem a136:Str.ofString "the finer wheel would have more than "=nth A 136:=rfl
theorem b136:nth B 136=⟨#[116,104,101,32,102,105,110,101,114,32,119,104,101,101,108,32,119,111,117,108,100,32,104,97,118,101,32,109,111,114,101,32,116,104,97,110,32]⟩:=rfl
theorem a137:Str.ofString "evenhub.primes"=nth A 137:=rfl
theorem b137:nth B 137=⟨#[101,118,101,110,104,117,98,46,112,114,105,109,101,115]⟩:=rfl
theorem a138:Str.ofString "more"=nth A 138:=rfl
theorem b138:nth B 138=⟨#[109,111,114,101]⟩:=rfl
theorem a139:Str.ofString "the loads have unlike numbers of holes"=nth A 139:=rfl
theorem b139:nth B 139=⟨#[116,104,101,32,108,111,97,100,115,32,104,97,118,101,32,117,110,108,105,107,101,32,110,117,109,98,101,114,115,32,111,102,32,104,111,108,101,115]⟩:=rfl
theorem a140:Str.ofString "the divisor of the step and the number of holes isn't 1"=nth A 140:=rfl
theorem b140:nth B 140=⟨#[116,104,101,32,100,105,118,105,115,111,114,32,111,102,32,116,104,101,32,115,116,101,112,32,97,110,100,32,116,104,101,32,110,117,109,98,101,114,32,111,102,32,104,111,108,101,115,32,105,115,110,39,116,32,49]⟩:=rfl
theorem a141:Str.ofString "turned_on"=nth A 141:=rfl
theorem b141:nth B 141=⟨#[116,117,114,110,101,100,95,111,110]⟩:=rfl
theorem a142:Str.ofString "pair"=nth A 142:=rfl
theorem b142:nth B 142=⟨#[112,97,105,114]⟩:=rfl
theorem a143:Str.ofString "turn"=nth A 143:=rfl
theorem b143:nth B 143=⟨#[116,117,114,110]⟩:=rfl
theorem a144:Str.ofString "next_turn"=nth A 144:=rfl
theorem b144:nth B 144=⟨#[110,101,120,116,95,116,117,114,110]⟩:=rfl
theorem a145:Str.ofString "rests"=nth A 145:=rfl
theorem b145:nth B 145=⟨#[114,101,115,116,115]⟩:=rfl
theorem a146:Str.ofString "bits"=nth A 146:=rfl
theorem b146:nth B 146=⟨#[98,105,116,115]⟩:=rfl
theorem a147:Str.ofString "length"=nth A 147:=rfl
theorem b147:nth B 147=⟨#[108,101,110,103,116,104]⟩:=rfl
theorem a148:Str.ofString "min"=nth A 148:=rfl
theorem b148:nth B 148=⟨#[109,105,110]⟩:=rfl
theorem a149:Str.ofString "bit_length"=nth A 149:=rfl
theorem b149:nth B 149=⟨#[98,105,116,95,108,101,110,103,116,104]⟩:=rfl
theorem a150:Str.ofString "LEAD_BITS"=nth A 150:=rfl
theorem b150:nth B 150=⟨#[76,69,65,68,95,66,73,84,83]⟩:=rfl
theorem a151:Str.ofString "behind"=nth A 151:=rfl
theorem b151:nth B 151=⟨#[98,101,104,105,110,100]⟩:=rfl
theorem a152:Str.ofString "sure_turn"=nth A 152:=rfl
theorem b152:nth B 152=⟨#[115,117,114,101,95,116,117,114,110]⟩:=rfl
theorem a153:Str.ofString "later_rest"=nth A 153:=rfl
theorem b153:nth B 153=⟨#[108,97,116,101,114,95,114,101,115,116]⟩:=rfl
theorem a154:Str.ofString "new_rest"=nth A 154:=rfl
theorem b154:nth B 154=⟨#[110,101,119,95,114,101,115,116]⟩:=rfl
theorem a155:Str.ofString "further"=nth A 155:=rfl
theorem b155:nth B 155=⟨#[102,117,114,116,104,101,114]⟩:=rfl
theorem a156:Str.ofString "doubt"=nth A 156:=rfl
theorem b156:nth B 156=⟨#[100,111,117,98,116]⟩:=rfl
theorem a157:Str.ofString "max"=nth A 157:=rfl
theorem b157:nth B 157=⟨#[109,97,120]⟩:=rfl
theorem a158:Str.ofString "evenhub.loads"=nth A 158:=rfl
theorem b158:nth B 158=⟨#[101,118,101,110,104,117,98,46,108,111,97,100,115]⟩:=rfl
theorem a159:Str.ofString "evenhub.wholes"=nth A 159:=rfl
theorem b159:nth B 159=⟨#[101,118,101,110,104,117,98,46,119,104,111,108,101,115]⟩:=rfl
theorem a160:Str.ofString "great"=nth A 160:=rfl
theorem b160:nth B 160=⟨#[103,114,101,97,116]⟩:=rfl
theorem a161:Str.ofString "small"=nth A 161:=rfl
theorem b161:nth B 161=⟨#[115,109,97,108,108]⟩:=rfl
theorem a162:Str.ofString "counts"=nth A 162:=rfl
theorem b162:nth B 162=⟨#[99,111,117,110,116,115]⟩:=rfl
theorem a163:Str.ofString "evenhub.errors"=nth A 163:=rfl
theorem b163:nth B 163=⟨#[101,118,101,110,104,117,98,46,101,114,114,111,114,115]⟩:=rfl
theorem a164:Str.ofString "/claim/cut.py"=nth A 164:=rfl
theorem b164:nth B 164=⟨#[47,99,108,97,105,109,47,99,117,116,46,112,121]⟩:=rfl
theorem cc {a b:Str}{l m:List Str}(h:a=b)(k:l=m):a::l=b::m:=by rw[h,k]
set_option maxRecDepth 100000 in
theorem AB:A=B:=
 cc (PySem.W.Fast.ofString_ofList ['_','l','a','w','_','a','s','k']) <|
 cc (PySem.W.Fast.ofString_ofList ['w','h','i','c','h']) <|
 cc (PySem.W.Fast.ofString_ofList ['x']) <|
 cc (PySem.W.Fast.ofString_ofList ['s','i','d','e','s']) <|
 cc (PySem.W.Fast.ofString_ofList ['s','i','d','e','_','s','u','m']) <|
 cc (PySem.W.Fast.ofString_ofList ['s','i','d','e','_','p','r','o','d','u','c','t']) <|
 cc (PySem.W.Fast.ofString_ofList ['_','l','a','w','_','r','e','f','u','s','e','d']) <|
 cc (PySem.W.Fast.ofString_ofList ['s','u','r','e']) <|
 cc (PySem.W.Fast.ofString_ofList ['o','t','h','e','r']) <|
 cc (PySem.W.Fast.ofString_ofList ['T','o','o','W','i','d','e']) <|
 cc (PySem.W.Fast.ofString_ofList ['e']) <|
 cc (PySem.W.Fast.ofString_ofList ['i','s','i','n','s','t','a','n','c','e']) <|
 cc (PySem.W.Fast.ofString_ofList ['N','o','F','i','t']) <|
 cc (PySem.W.Fast.ofString_ofList ['N','o','H','o','l','e']) <|
 cc (PySem.W.Fast.ofString_ofList ['N','o','N','a','m','e']) <|
 cc (PySem.W.Fast.ofString_ofList ['N','o','N','u','m','b','e','r']) <|
 cc (PySem.W.Fast.ofString_ofList ['N','o','Q','u','o','t','i','e','n','t']) <|
 cc (PySem.W.Fast.ofString_ofList ['N','o','R','i','n','g']) <|
 cc (PySem.W.Fast.ofString_ofList ['N','o','R','o','w']) <|
 cc (PySem.W.Fast.ofString_ofList ['N','o','T','e','x','t']) <|
 cc (PySem.W.Fast.ofString_ofList ['N','o','T','u','r','n']) <|
 cc (PySem.W.Fast.ofString_ofList ['N','o','W','h','e','e','l']) <|
 cc (PySem.W.Fast.ofString_ofList ['_','l','a','w','_','r','e','f','u','s','e','d','_','b','y','_','b','a','s','e']) <|
 cc (PySem.W.Fast.ofString_ofList ['H','u','b','E','r','r','o','r']) <|
 cc (PySem.W.Fast.ofString_ofList ['V','a','l','u','e','E','r','r','o','r']) <|
 cc (PySem.W.Fast.ofString_ofList ['_','l','a','w','_','w','h','e','e','l']) <|
 cc (PySem.W.Fast.ofString_ofList ['c','e','l','l']) <|
 cc (PySem.W.Fast.ofString_ofList ['l','a','w']) <|
 cc (PySem.W.Fast.ofString_ofList ['s','c','r','i','p','t']) <|
 cc (PySem.W.Fast.ofString_ofList ['n']) <|
 cc (PySem.W.Fast.ofString_ofList ['_','l','a','w','_','c','e','l','l','_','a','t']) <|
 cc (PySem.W.Fast.ofString_ofList ['l','o','a','d']) <|
 cc (PySem.W.Fast.ofString_ofList ['_','l','a','w','_','l','o','a','d']) <|
 cc (PySem.W.Fast.ofString_ofList ['_','l','a','w','_','g','a','t','h','e','r','e','d']) <|
 cc (PySem.W.Fast.ofString_ofList ['v','a','l','u','e']) <|
 cc (PySem.W.Fast.ofString_ofList ['_','l','a','w','_','b','o','t','t','o','m']) <|
 cc (PySem.W.Fast.ofString_ofList ['_','l','a','w','_','p','l','a','i','n']) <|
 cc (PySem.W.Fast.ofString_ofList ['a','l','l']) <|
 cc (PySem.W.Fast.ofString_ofList ['k']) <|
 cc (PySem.W.Fast.ofString_ofList ['r','a','n','g','e']) <|
 cc (PySem.W.Fast.ofString_ofList ['.','0']) <|
 cc (PySem.W.Fast.ofString_ofList ['f','r','e','e']) <|
 cc (PySem.W.Fast.ofString_ofList ['u']) <|
 cc (PySem.W.Fast.ofString_ofList ['_','l','a','w','_','d','i','v','i','s','o','r']) <|
 cc (PySem.W.Fast.ofString_ofList ['d','u','e']) <|
 cc (PySem.W.Fast.ofString_ofList ['o','n','e']) <|
 cc (PySem.W.Fast.ofString_ofList ['s','i','d','e']) <|
 cc (PySem.W.Fast.ofString_ofList ['a','p','p','e','n','d']) <|
 cc (PySem.W.Fast.ofString_ofList ['f','o','u','n','d']) <|
 cc (PySem.W.Fast.ofString_ofList ['l','i','s','t']) <|
 cc (PySem.W.Fast.ofString_ofList ['l','e','n']) <|
 cc (PySem.W.Fast.ofString_ofList ['s','o','r','t','e','d']) <|
 cc (PySem.W.Fast.ofString_ofList ['f','a','s','t']) <|
 cc (PySem.W.Fast.ofString_ofList ['a','b','s']) <|
 cc (PySem.W.Fast.ofString_ofList ['c','e','l','l','s']) <|
 cc (PySem.W.Fast.ofString_ofList ['f','a','r']) <|
 cc (PySem.W.Fast.ofString_ofList ['m','o','s','t']) <|
 cc (PySem.W.Fast.ofString_ofList ['a','t']) <|
 cc (PySem.W.Fast.ofString_ofList ['_','l','a','w','_','s','k','i','p','p','e','d']) <|
 cc (PySem.W.Fast.ofString_ofList ['w','e','i','g','h','t','s']) <|
 cc (PySem.W.Fast.ofString_ofList ['s','t','e','p']) <|
 cc (PySem.W.Fast.ofString_ofList ['a','g','a','i','n']) <|
 cc (PySem.W.Fast.ofString_ofList ['z','i','p']) <|
 cc (PySem.W.Fast.ofString_ofList ['j','o','i','n','e','d']) <|
 cc (PySem.W.Fast.ofString_ofList ['g','r','o','u','p']) <|
 cc (PySem.W.Fast.ofString_ofList ['p','o','w','e','r','s']) <|
 cc (PySem.W.Fast.ofString_ofList ['p','o','w','e','r']) <|
 cc (PySem.W.Fast.ofString_ofList ['e','x','t','e','n','d']) <|
 cc (PySem.W.Fast.ofString_ofList ['_','_','n','a','m','e','_','_']) <|
 cc (PySem.W.Fast.ofString_ofList ['l','a','w','_','e','v','e','n','h','u','b','_','k','5','9','_','a','l','l','_','s','i','d','e','s']) <|
 cc (PySem.W.Fast.ofString_ofList ['_','l','a','w','_','w','h','o','l','e']) <|
 cc (PySem.W.Fast.ofString_ofList ['i','n','t']) <|
 cc (PySem.W.Fast.ofString_ofList ['b','o','o','l']) <|
 cc (PySem.W.Fast.ofString_ofList ['t','u','p','l','e']) <|
 cc (PySem.W.Fast.ofString_ofList ['w','e','i','g','h','t']) <|
 cc (PySem.W.Fast.ofString_ofList ['o','u','t','c','o','m','e']) <|
 cc (PySem.W.Fast.ofString_ofList ['w','h','o','l','e']) <|
 cc (PySem.W.Fast.ofString_ofList ['a','d','d','e','d']) <|
 cc (PySem.W.Fast.ofString_ofList ['c','h','e','c','k','_','s','i','d','e','d']) <|
 cc (PySem.W.Fast.ofString_ofList ['u','n','i','t','s']) <|
 cc (PySem.W.Fast.ofString_ofList ['p','o','w','e','r','s','_','o','u','t','s','i','d','e']) <|
 cc (PySem.W.Fast.ofString_ofList ['p','r','o','d','u','c','t','_','b','y','_','p','o','w','e','r','s']) <|
 cc (PySem.W.Fast.ofString_ofList ['m','a','n','y']) <|
 cc (PySem.W.Fast.ofString_ofList ['h','a','l','f']) <|
 cc (PySem.W.Fast.ofString_ofList ['t','i','m','e','s']) <|
 cc (PySem.W.Fast.ofString_ofList ['e','v','e','n','h','u','b','.','s','i','d','e','s']) <|
 cc (PySem.W.Fast.ofString_ofList ['M','O','S','T','_','H','O','L','E','S','_','S','I','D','E','D']) <|
 cc (PySem.W.Fast.ofString_ofList ['s','k','i','p','p','e','d']) <|
 cc (PySem.W.Fast.ofString_ofList ['a','l','l',' ','s','i','d','e','s',' ','a','r','e',' ','t','o','l','d',' ','o','f',' ','v','a','l','u','e','s',' ','o','n',' ','w','h','e','e','l','s',' ','o','f',' ','a','t',' ','m','o','s','t',' ']) <|
 cc (PySem.W.Fast.ofString_ofList [' ','h','o','l','e','s']) <|
 cc (PySem.W.Fast.ofString_ofList ['o','n']) <|
 cc (PySem.W.Fast.ofString_ofList ['t','h','e',' ','n','u','m','b','e','r',' ','o','f',' ','h','o','l','e','s',' ','o','f',' ','t','h','e',' ','v','a','l','u','e',Char.ofNat 39,'s',' ','o','w','n',' ','w','h','e','e','l',' ','d','o','e','s','n',Char.ofNat 39,'t',' ','d','i','v','i','d','e',' ','t','h','a','t',' ','o','f',' ','t','h','e',' ','o','t','h','e','r']) <|
 cc (PySem.W.Fast.ofString_ofList ['f','i','n','e','r']) <|
 cc (PySem.W.Fast.ofString_ofList ['j','o','i','n','t','_','w','h','e','e','l']) <|
 cc (PySem.W.Fast.ofString_ofList ['y']) <|
 cc (PySem.W.Fast.ofString_ofList ['j','o','i','n','t']) <|
 cc (PySem.W.Fast.ofString_ofList ['M','O','S','T','_','H','O','L','E','S']) <|
 cc (PySem.W.Fast.ofString_ofList ['t','h','e',' ','j','o','i','n','t',' ','w','h','e','e','l',' ','o','f',' ','b','o','t','h',' ','v','a','l','u','e','s',' ','w','o','u','l','d',' ','h','a','v','e',' ','m','o','r','e',' ','t','h','a','n',' ']) <|
 cc (PySem.W.Fast.ofString_ofList ['r','a','i','s','e','d']) <|
 cc (PySem.W.Fast.ofString_ofList ['s','c','a','l','e','d']) <|
 cc (PySem.W.Fast.ofString_ofList ['p','l','u','s']) <|
 cc (PySem.W.Fast.ofString_ofList ['l','a','i','d','_','o','n']) <|
 cc (PySem.W.Fast.ofString_ofList ['d','r','o','p','p','e','d']) <|
 cc (PySem.W.Fast.ofString_ofList ['p']) <|
 cc (PySem.W.Fast.ofString_ofList ['q']) <|
 cc (PySem.W.Fast.ofString_ofList ['l','e','a','d']) <|
 cc (PySem.W.Fast.ofString_ofList ['b','a','c','k']) <|
 cc (PySem.W.Fast.ofString_ofList ['h','o','l','e']) <|
 cc (PySem.W.Fast.ofString_ofList ['f','i','r','s','t','_','d','r','o','p','p','e','d']) <|
 cc (PySem.W.Fast.ofString_ofList ['e','v','e','n','h','u','b','.','t','e','l','l','i','n','g','s']) <|
 cc (PySem.W.Fast.ofString_ofList ['b','o','t','t','o','m']) <|
 cc (PySem.W.Fast.ofString_ofList ['a',' ','l','o','a','d',' ','i','s',' ','n','o','t',' ','d','i','v','i','d','e','d',' ','b','y',' ','0']) <|
 cc (PySem.W.Fast.ofString_ofList ['l','e','f','t']) <|
 cc (PySem.W.Fast.ofString_ofList ['r','e','s','t']) <|
 cc (PySem.W.Fast.ofString_ofList ['d','i','v','i','s','o','r','_','o','f','_','a','l','l']) <|
 cc (PySem.W.Fast.ofString_ofList ['e','n','u','m','e','r','a','t','e']) <|
 cc (PySem.W.Fast.ofString_ofList ['b','y']) <|
 cc (PySem.W.Fast.ofString_ofList ['f','i','r','s','t']) <|
 cc (PySem.W.Fast.ofString_ofList ['o','t','h','e','r','s']) <|
 cc (PySem.W.Fast.ofString_ofList ['n','u','m','b','e','r']) <|
 cc (PySem.W.Fast.ofString_ofList ['d','i','v','i','s','o','r']) <|
 cc (PySem.W.Fast.ofString_ofList ['r','i','n','g','_','h','o','l','e','s']) <|
 cc (PySem.W.Fast.ofString_ofList ['e','v','e','n','h','u','b','.','r','e','s','t','s']) <|
 cc (PySem.W.Fast.ofString_ofList ['r','o','w','s']) <|
 cc (PySem.W.Fast.ofString_ofList ['p','a','r','t','s']) <|
 cc (PySem.W.Fast.ofString_ofList ['l','a','y','_','r','i','n','g']) <|
 cc (PySem.W.Fast.ofString_ofList ['p','r','i','m','e','_','p','o','w','e','r']) <|
 cc (PySem.W.Fast.ofString_ofList ['t','o','l','d']) <|
 cc (PySem.W.Fast.ofString_ofList ['e','u','c','l','i','d']) <|
 cc (PySem.W.Fast.ofString_ofList ['t','h','e',' ','d','i','v','i','s','o','r',' ','o','f',' ','t','h','e',' ','s','t','e','p',' ','a','n','d',' ','t','h','e',' ','n','u','m','b','e','r',' ','i','s','n',Char.ofNat 39,'t',' ','1']) <|
 cc (PySem.W.Fast.ofString_ofList ['e','v','e','n','h','u','b','.','r','i','n','g','s']) <|
 cc (PySem.W.Fast.ofString_ofList ['p','l','a','c','e']) <|
 cc (PySem.W.Fast.ofString_ofList ['c','h','e','c','k','_','f','i','t']) <|
 cc (PySem.W.Fast.ofString_ofList ['b','o','r','n','e']) <|
 cc (PySem.W.Fast.ofString_ofList ['b','r','o','u','g','h','t']) <|
 cc (PySem.W.Fast.ofString_ofList ['s','u','m']) <|
 cc (PySem.W.Fast.ofString_ofList ['t','h','e',' ','f','i','n','e','r',' ','w','h','e','e','l',' ','w','o','u','l','d',' ','h','a','v','e',' ','m','o','r','e',' ','t','h','a','n',' ']) <|
 cc (PySem.W.Fast.ofString_ofList ['e','v','e','n','h','u','b','.','p','r','i','m','e','s']) <|
 cc (PySem.W.Fast.ofString_ofList ['m','o','r','e']) <|
 cc (PySem.W.Fast.ofString_ofList ['t','h','e',' ','l','o','a','d','s',' ','h','a','v','e',' ','u','n','l','i','k','e',' ','n','u','m','b','e','r','s',' ','o','f',' ','h','o','l','e','s']) <|
 cc (PySem.W.Fast.ofString_ofList ['t','h','e',' ','d','i','v','i','s','o','r',' ','o','f',' ','t','h','e',' ','s','t','e','p',' ','a','n','d',' ','t','h','e',' ','n','u','m','b','e','r',' ','o','f',' ','h','o','l','e','s',' ','i','s','n',Char.ofNat 39,'t',' ','1']) <|
 cc (PySem.W.Fast.ofString_ofList ['t','u','r','n','e','d','_','o','n']) <|
 cc (PySem.W.Fast.ofString_ofList ['p','a','i','r']) <|
 cc (PySem.W.Fast.ofString_ofList ['t','u','r','n']) <|
 cc (PySem.W.Fast.ofString_ofList ['n','e','x','t','_','t','u','r','n']) <|
 cc (PySem.W.Fast.ofString_ofList ['r','e','s','t','s']) <|
 cc (PySem.W.Fast.ofString_ofList ['b','i','t','s']) <|
 cc (PySem.W.Fast.ofString_ofList ['l','e','n','g','t','h']) <|
 cc (PySem.W.Fast.ofString_ofList ['m','i','n']) <|
 cc (PySem.W.Fast.ofString_ofList ['b','i','t','_','l','e','n','g','t','h']) <|
 cc (PySem.W.Fast.ofString_ofList ['L','E','A','D','_','B','I','T','S']) <|
 cc (PySem.W.Fast.ofString_ofList ['b','e','h','i','n','d']) <|
 cc (PySem.W.Fast.ofString_ofList ['s','u','r','e','_','t','u','r','n']) <|
 cc (PySem.W.Fast.ofString_ofList ['l','a','t','e','r','_','r','e','s','t']) <|
 cc (PySem.W.Fast.ofString_ofList ['n','e','w','_','r','e','s','t']) <|
 cc (PySem.W.Fast.ofString_ofList ['f','u','r','t','h','e','r']) <|
 cc (PySem.W.Fast.ofString_ofList ['d','o','u','b','t']) <|
 cc (PySem.W.Fast.ofString_ofList ['m','a','x']) <|
 cc (PySem.W.Fast.ofString_ofList ['e','v','e','n','h','u','b','.','l','o','a','d','s']) <|
 cc (PySem.W.Fast.ofString_ofList ['e','v','e','n','h','u','b','.','w','h','o','l','e','s']) <|
 cc (PySem.W.Fast.ofString_ofList ['g','r','e','a','t']) <|
 cc (PySem.W.Fast.ofString_ofList ['s','m','a','l','l']) <|
 cc (PySem.W.Fast.ofString_ofList ['c','o','u','n','t','s']) <|
 cc (PySem.W.Fast.ofString_ofList ['e','v','e','n','h','u','b','.','e','r','r','o','r','s']) <|
 cc (PySem.W.Fast.ofString_ofList ['/','c','l','a','i','m','/','c','u','t','.','p','y']) <|
 rfl
set_option maxRecDepth 100000 in
noncomputable def G:{g:List Str→Program // PySem.Challenge.pw_evenhub_k59_all_sides=g A}:=by
 refine⟨?g,?h⟩
 case h =>
  delta PySem.Challenge.pw_evenhub_k59_all_sides
  dsimp only [a0,a1,a2,a3,a4,a5,a6,a7,a8,a9,a10,a11,a12,a13,a14,a15,a16,a17,a18,a19,a20,a21,a22,a23,a24,a25,a26,a27,a28,a29,a30,a31,a32,a33,a34,a35,a36,a37,a38,a39,a40,a41,a42,a43,a44,a45,a46,a47,a48,a49,a50,a51,a52,a53,a54,a55,a56,a57,a58,a59,a60,a61,a62,a63,a64,a65,a66,a67,a68,a69,a70,a71,a72,a73,a74,a75,a76,a77,a78,a79,a80,a81,a82,a83,a84,a85,a86,a87,a88,a89,a90,a91,a92,a93,a94,a95,a96,a97,a98,a99,a100,a101,a102,a103,a104,a105,a106,a107,a108,a109,a110,a111,a112,a113,a114,a115,a116,a117,a118,a119,a120,a121,a122,a123,a124,a125,a126,a127,a128,a129,a130,a131,a132,a133,a134,a135,a136,a137,a138,a139,a140,a141,a142,a143,a144,a145,a146,a147,a148,a149,a150,a151,a152,a153,a154,a155,a156,a157,a158,a159,a160,a161,a162,a163,a164]
  generalize A=f
  exact rfl
set_option maxRecDepth 100000 in
noncomputable def Y:{y:Program // G.1 B=y}:=by
 refine⟨?y,?h⟩
 case h =>
  delta G
  dsimp only [b0,b1,b2,b3,b4,b5,b6,b7,b8,b9,b10,b11,b12,b13,b14,b15,b16,b17,b18,b19,b20,b21,b22,b23,b24,b25,b26,b27,b28,b29,b30,b31,b32,b33,b34,b35,b36,b37,b38,b39,b40,b41,b42,b43,b44,b45,b46,b47,b48,b49,b50,b51,b52,b53,b54,b55,b56,b57,b58,b59,b60,b61,b62,b63,b64,b65,b66,b67,b68,b69,b70,b71,b72,b73,b74,b75,b76,b77,b78,b79,b80,b81,b82,b83,b84,b85,b86,b87,b88,b89,b90,b91,b92,b93,b94,b95,b96,b97,b98,b99,b100,b101,b102,b103,b104,b105,b106,b107,b108,b109,b110,b111,b112,b113,b114,b115,b116,b117,b118,b119,b120,b121,b122,b123,b124,b125,b126,b127,b128,b129,b130,b131,b132,b133,b134,b135,b136,b137,b138,b139,b140,b141,b142,b143,b144,b145,b146,b147,b148,b149,b150,b151,b152,b153,b154,b155,b156,b157,b158,b159,b160,b161,b162,b163,b164]
  exact rfl
end PwT
noncomputable def PySem.W.Fast.tw11577465615306499093:PySem.Program:=PwT.Y.1
theorem PySem.W.Fast.te11577465615306499093:PySem.Challenge.pw_evenhub_k59_all_sides=PySem.W.Fast.tw11577465615306499093:=(PwT.G.2.trans (congrArg PwT.G.1 PwT.AB)).trans PwT.Y.2
namespace Hd
open PySem PySem.W
abbrev PO:=Params→Obj
noncomputable abbrev TW:PySem.Program:=PySem.W.Fast.tw11577465615306499093
noncomputable def tp (i:Nat):PySem.Stmt:=TW.main.body.getD i (.Pass ⟨0,0,0,0⟩)
noncomputable abbrev E (P:Params)(q:PySem.Str)(t:Nat)(v:Value):DictEntry:=⟨PyData.keyHash P q,.str q t,v⟩
noncomputable abbrev I (n t:Nat):Value:=.int (Int.ofNat n) t
noncomputable abbrev l0:String:=SL.s2766695959194262286x5
noncomputable def o0:PO:=fun P=>Obj.mk (.type l0) none (.seq ⟨[]⟩ 0) ⟨[]⟩
noncomputable def o2:PO:=fun P=>Obj.mk .none none (.fields ⟨[]⟩) ⟨[]⟩
noncomputable abbrev l1:String:=SL.s5856160107412720595x4
noncomputable def q0:Str:=⟨⟨[60,109,111,100,117,108,101,62]⟩⟩
noncomputable def q1:Str:=⟨⟨[47,99,108,97,105,109,47,99,117,116,46,112,121]⟩⟩
noncomputable def o3:PO:=fun P=>Obj.mk (.type l1) none (.fields ⟨[(.str q0 182),(.str q0 183),(.str q1 184),(I 1 0),(I 0 0),(I 0 0),(I 0 0),(I 0 0),(.ref 11),(.bool Bool.false),(I 181 0),(.ref 12),.none,.none,.none,.none,(I 185 0),(I 1 0),(.str q1 186)]⟩) ⟨[]⟩
noncomputable abbrev l2:String:=SL.s658472552662922059x5
noncomputable def q2:Str:=⟨⟨[95,95,109,97,105,110,95,95]⟩⟩
noncomputable def o7:PO:=fun P=>Obj.mk (.type l2) none .plain ⟨[(some (.ref 13)),(some (.ref 3)),(some (.ref 3)),none,(some (.str q2 164)),none,(some (.ref 0))]⟩
noncomputable def Ta:PySem.Params→PySem.W.BT:=fun P=>(.node (boot_o_0 P) (.node (boot_o_1 P) (.node (boot_o_3 P) (.node (boot_o_7 P) .nil .nil) (.node (o0 P) .nil .nil)) (.node (boot_o_5 P) (.node (boot_o_9 P) .nil .nil) (.node (o3 P) .nil .nil))) (.node (boot_o_2 P) (.node (boot_o_4 P) (.node (boot_o_8 P) .nil .nil) (.node (o2 P) .nil .nil)) (.node (boot_o_6 P) (.node (boot_o_10 P) .nil .nil) (.node (o7 P) .nil .nil))))
noncomputable def Sta (w:PySem.World)(os:PySem.OsState):PySem.W.SharedT:=PySem.W.SharedT.mk (Ta w.params) 15 (PySem.Life.mk [] [] [] 0 [] [] Bool.false ⟨[]⟩ [] 0 Bool.false Bool.false Bool.false (Int.ofNat 0) [(Int.ofNat 2000),(Int.ofNat 10),(Int.ofNat 10)] Bool.false 0 Bool.true [] [] 0 Bool.false) (Array.mk []) (PySem.Drawn.mk 0 0 0 0) 187 os
noncomputable def Tb:PySem.Params→PySem.W.BT:=fun P=>(.node (boot_o_0 P) (.node (boot_o_1 P) (.node (boot_o_3 P) (.node (boot_o_7 P) .nil .nil) (.node (o0 P) .nil .nil)) (.node (boot_o_5 P) (.node (boot_o_9 P) .nil .nil) (.node (o3 P) .nil .nil))) (.node (boot_o_2 P) (.node (boot_o_4 P) (.node (boot_o_8 P) .nil .nil) (.node (o2 P) .nil .nil)) (.node (boot_o_6 P) (.node (boot_o_10 P) .nil .nil) (.node (o7 P) .nil .nil))))
noncomputable def Stb (w:PySem.World)(os:PySem.OsState):PySem.W.SharedT:=PySem.W.SharedT.mk (Tb w.params) 15 (PySem.Life.mk [] [] [] 0 [] [] Bool.false ⟨[]⟩ [] 0 Bool.false Bool.false Bool.false (Int.ofNat 0) [(Int.ofNat 2000),(Int.ofNat 10),(Int.ofNat 10)] Bool.false 0 Bool.true [] [] 0 Bool.false) (Array.mk []) (PySem.Drawn.mk 0 0 0 0) 187 os
noncomputable def env:PySem.Env:={ scope:=TW.main.scope,locals:=PySem.mainNs,globals:=PySem.mainNs,cells:=[],code:=(.ref 13),frame:=some 14 }
abbrev ann:Option PySem.Value:=(some (.ref 6))
abbrev m0:Nat:=11
abbrev Bs:List PySem.Frame:=[PySem.W.topFrame (PySem.Pos.mk 0 0 0 0)]
noncomputable abbrev cE:PySem.Code:=.body (behindTheImports TW) env
abbrev posA:PySem.Pos:=(PySem.Pos.mk 0 0 0 0)
abbrev posB:PySem.Pos:=(PySem.Pos.mk 0 0 0 0)
abbrev kA:Nat:=12
abbrev kB:Nat:=0
abbrev kF:Nat:=1
noncomputable abbrev l3:String:=SL.s14018661285674007319x4
noncomputable def q3:Str:=⟨⟨[95,95,110,97,109,101,95,95]⟩⟩
noncomputable def q4:Str:=⟨⟨[101,118,101,110,104,117,98,46,112,114,105,109,101,115]⟩⟩
noncomputable def q5:Str:=⟨⟨[95,95,100,111,99,95,95]⟩⟩
noncomputable def q6:Str:=⟨⟨[95,95,112,97,99,107,97,103,101,95,95]⟩⟩
noncomputable def q7:Str:=⟨⟨[95,95,108,111,97,100,101,114,95,95]⟩⟩
noncomputable abbrev l4:String:=SL.s7097527257260152453x26
noncomputable def q8:Str:=⟨⟨[95,95,115,112,101,99,95,95]⟩⟩
noncomputable def q9:Str:=⟨⟨[95,95,97,110,110,111,116,97,116,105,111,110,115,95,95]⟩⟩
noncomputable def q10:Str:=⟨⟨[95,95,98,117,105,108,116,105,110,115,95,95]⟩⟩
noncomputable def q11:Str:=⟨⟨[95,95,102,105,108,101,95,95]⟩⟩
noncomputable def q12:Str:=⟨⟨[95,95,99,97,99,104,101,100,95,95]⟩⟩
noncomputable def q13:Str:=⟨⟨[72,117,98,69,114,114,111,114]⟩⟩
noncomputable def q14:Str:=⟨⟨[78,111,84,117,114,110]⟩⟩
noncomputable def q15:Str:=⟨⟨[78,111,70,105,116]⟩⟩
noncomputable def q16:Str:=⟨⟨[84,111,111,87,105,100,101]⟩⟩
noncomputable def q17:Str:=⟨⟨[78,111,82,105,110,103]⟩⟩
noncomputable def q18:Str:=⟨⟨[78,111,72,111,108,101]⟩⟩
noncomputable def q19:Str:=⟨⟨[78,111,87,104,101,101,108]⟩⟩
noncomputable def q20:Str:=⟨⟨[78,111,78,117,109,98,101,114]⟩⟩
noncomputable def q21:Str:=⟨⟨[78,111,81,117,111,116,105,101,110,116]⟩⟩
noncomputable def q22:Str:=⟨⟨[78,111,84,101,120,116]⟩⟩
noncomputable def q23:Str:=⟨⟨[78,111,78,97,109,101]⟩⟩
noncomputable def q24:Str:=⟨⟨[78,111,82,111,119]⟩⟩
noncomputable def q25:Str:=⟨⟨[76,69,65,68,95,66,73,84,83]⟩⟩
noncomputable def q26:Str:=⟨⟨[100,105,118,105,115,111,114]⟩⟩
noncomputable def q27:Str:=⟨⟨[106,111,105,110,116]⟩⟩
noncomputable def q28:Str:=⟨⟨[101,117,99,108,105,100]⟩⟩
noncomputable def q29:Str:=⟨⟨[116,117,114,110,101,100,95,111,110]⟩⟩
noncomputable def q30:Str:=⟨⟨[110,101,120,116,95,116,117,114,110]⟩⟩
noncomputable def q31:Str:=⟨⟨[115,117,114,101,95,116,117,114,110]⟩⟩
noncomputable def q32:Str:=⟨⟨[77,79,83,84,95,72,79,76,69,83]⟩⟩
noncomputable def q33:Str:=⟨⟨[112,108,117,115]⟩⟩
noncomputable def q34:Str:=⟨⟨[99,104,101,99,107,95,102,105,116]⟩⟩
noncomputable def q35:Str:=⟨⟨[115,99,97,108,101,100]⟩⟩
noncomputable def q36:Str:=⟨⟨[115,107,105,112,112,101,100]⟩⟩
noncomputable def q37:Str:=⟨⟨[108,97,105,100,95,111,110]⟩⟩
noncomputable def q38:Str:=⟨⟨[98,114,111,117,103,104,116]⟩⟩
noncomputable def q39:Str:=⟨⟨[102,105,110,101,114]⟩⟩
noncomputable def o24:PO:=fun P=>Obj.mk (.type l3) none (.dict ⟨[(E P q3 165 (.str q4 510)),(E P q5 166 .none),(E P q6 167 .none),(E P q7 168 (.builtin l4)),(E P q8 169 .none),(E P q9 170 (.ref 6)),(E P q10 171 (.ref 4)),(E P q11 173 (.str q1 172)),(E P q12 174 .none),(E P q13 206 (.ref 24)),(E P q14 222 (.ref 37)),(E P q15 238 (.ref 49)),(E P q16 254 (.ref 61)),(E P q17 270 (.ref 73)),(E P q18 286 (.ref 85)),(E P q19 302 (.ref 97)),(E P q20 318 (.ref 109)),(E P q21 334 (.ref 121)),(E P q22 350 (.ref 133)),(E P q23 366 (.ref 145)),(E P q24 382 (.ref 157)),(E P q25 386 (I 128 385)),(E P q26 397 (.ref 166)),(E P q27 405 (.ref 173)),(E P q28 417 (.ref 180)),(E P q29 425 (.ref 187)),(E P q30 436 (.ref 194)),(E P q31 449 (.ref 201)),(E P q32 453 (I 420 452)),(E P q33 459 (.ref 206)),(E P q34 467 (.ref 213)),(E P q35 473 (.ref 218)),(E P q36 485 (.ref 225)),(E P q37 491 (.ref 230)),(E P q38 497 (.ref 235)),(E P q39 509 (.ref 242))]⟩ 36) ⟨[]⟩
noncomputable def o64:PO:=fun P=>Obj.mk .none none (.fields ⟨[(I 2 0),(I 0 0),(.ref 20),(I 4 0),(I 0 0),(.ref 33),(I 6 0),(I 0 0),(.ref 45),(I 8 0),(I 0 0),(.ref 57),(I 10 0),(I 0 0),(.ref 69),(I 12 0),(I 0 0),(.ref 81),(I 14 0),(I 0 0),(.ref 93),(I 16 0),(I 0 0),(.ref 105),(I 18 0),(I 0 0),(.ref 117),(I 20 0),(I 0 0),(.ref 129),(I 22 0),(I 0 0),(.ref 141),(I 24 0),(I 0 0),(.ref 153),(I 28 0),(I 0 0),(.ref 165),(I 36 0),(I 0 0),(.ref 172),(I 38 0),(I 0 0),(.ref 179),(I 46 0),(I 0 0),(.ref 186),(I 48 0),(I 0 0),(.ref 193),(I 56 0),(I 0 0),(.ref 200),(I 71 0),(I 0 0),(.ref 205),(I 74 0),(I 0 0),(.ref 212),(I 77 0),(I 0 0),(.ref 217),(I 79 0),(I 0 0),(.ref 224),(I 87 0),(I 0 0),(.ref 229),(I 91 0),(I 0 0),(.ref 234),(I 94 0),(I 0 0),(.ref 241)]⟩) ⟨[]⟩
noncomputable abbrev l5:String:=SL.s6070975301684473832x10
noncomputable def o65:PO:=fun P=>Obj.mk (.type l0) none (.seq ⟨[(.type l5)]⟩ 0) ⟨[]⟩
noncomputable abbrev l6:String:=SL.s11030030927630378310x26
noncomputable abbrev l7:String:=SL.s10062305145149207511x16
noncomputable abbrev l8:String:=SL.s17162191345867700912x4
noncomputable def o67:PO:=fun P=>Obj.mk (.type l6) none (.fields ⟨[(.builtin l7),(.type l8)]⟩) ⟨[]⟩
noncomputable def q40:Str:=⟨⟨[95,95,109,111,100,117,108,101,95,95]⟩⟩
noncomputable def q41:Str:=⟨⟨[101,118,101,110,104,117,98,46,101,114,114,111,114,115]⟩⟩
noncomputable def q42:Str:=⟨⟨[95,95,113,117,97,108,110,97,109,101,95,95]⟩⟩
noncomputable def q43:Str:=⟨⟨[95,95,102,105,114,115,116,108,105,110,101,110,111,95,95]⟩⟩
noncomputable def q44:Str:=⟨⟨[95,95,115,116,97,116,105,99,95,97,116,116,114,105,98,117,116,101,115,95,95]⟩⟩
noncomputable def o71:PO:=fun P=>Obj.mk (.type l3) none (.dict ⟨[(E P q40 196 (.str q41 187)),(E P q42 198 (.str q13 197)),(E P q43 200 (I 2 199)),(E P q44 201 (.ref 22))]⟩ 4) ⟨[]⟩
noncomputable abbrev o77:PO:=o0
noncomputable abbrev o78:PO:=o2
noncomputable def o79:PO:=fun P=>Obj.mk (.type l1) none (.fields ⟨[(.str q13 191),(.str q13 192),(.str q1 193),(I 2 0),(I 0 0),(I 0 0),(I 0 0),(I 0 0),(.ref 18),(.bool Bool.false),(I 181 0),(.ref 19),.none,.none,.none,.none,(I 194 0),(I 2 0),(.str q1 195)]⟩) ⟨[]⟩
noncomputable def o80:PO:=fun P=>Obj.mk (.type l2) none .plain ⟨[(some (.ref 20)),(some (.ref 3)),(some (.ref 17)),none,(some (.str q41 187)),none,(some (.ref 0))]⟩
noncomputable abbrev o81:PO:=o0
noncomputable def q45:Str:=⟨⟨[95,95,119,101,97,107,114,101,102,95,95]⟩⟩
noncomputable def o82:PO:=fun P=>Obj.mk (.type l3) none (.dict ⟨[(E P q40 196 (.str q41 187)),(E P q43 200 (I 2 199)),(E P q44 201 (.ref 22)),(E P q45 203 (.ref 25)),(E P q5 204 .none)]⟩ 3) ⟨[]⟩
noncomputable abbrev l9:String:=SL.s5946037652744460706x9
noncomputable abbrev l10:String:=SL.s4278001404047624695x13
noncomputable abbrev l11:String:=SL.s2742458400755230247x6
noncomputable abbrev l12:String:=SL.s4209523147560561109x18
noncomputable def o84:PO:=fun P=>Obj.mk (.type l8) none (.cls (PySem.ClassData.mk q13 [(.type l5)] [(.ref 24),(.type l5),(.type l9),(.type l10),(.type l11)] 23 q13 Bool.true [] [(.ref 37),(.ref 49),(.ref 61),(.ref 73),(.ref 85),(.ref 97),(.ref 109),(.ref 121),(.ref 133),(.ref 145),(.ref 157)] Bool.false none Bool.false)) ⟨[(some (.ref 15)),none,(some (.str q13 189)),(some (.str q13 197)),(some (.builtin l12)),(some (.bool Bool.true))]⟩
noncomputable abbrev l13:String:=SL.s14755015743595814543x17
noncomputable abbrev l14:String:=SL.s10220274742760427390x26
noncomputable def o89:PO:=fun P=>Obj.mk (.type l13) none (.fields ⟨[(.str q45 202),(.ref 24),(.builtin l14),.none]⟩) ⟨[]⟩
noncomputable abbrev l15:String:=SL.s4290257624100764138x5
noncomputable def o92:PO:=fun P=>Obj.mk (.type l15) none (.fields ⟨[(.ref 24),(.ref 24),(.ref 24)]⟩) ⟨[]⟩
noncomputable abbrev l16:String:=SL.s4860613602091757760x24
noncomputable def o94:PO:=fun P=>Obj.mk (.type l6) none (.fields ⟨[(.builtin l16),(.ref 24)]⟩) ⟨[]⟩
noncomputable def o96:PO:=fun P=>Obj.mk (.type l0) none (.seq ⟨[(.ref 24)]⟩ 0) ⟨[]⟩
noncomputable abbrev o97:PO:=o67
noncomputable def o98:PO:=fun P=>Obj.mk (.type l3) none (.dict ⟨[(E P q40 214 (.str q41 187)),(E P q42 216 (.str q14 215)),(E P q43 218 (I 4 217)),(E P q44 219 (.ref 35))]⟩ 4) ⟨[]⟩
noncomputable abbrev o99:PO:=o0
noncomputable abbrev o100:PO:=o2
noncomputable def o101:PO:=fun P=>Obj.mk (.type l1) none (.fields ⟨[(.str q14 209),(.str q14 210),(.str q1 211),(I 4 0),(I 0 0),(I 0 0),(I 0 0),(I 0 0),(.ref 31),(.bool Bool.false),(I 181 0),(.ref 32),.none,.none,.none,.none,(I 212 0),(I 4 0),(.str q1 213)]⟩) ⟨[]⟩
noncomputable def o102:PO:=fun P=>Obj.mk (.type l2) none .plain ⟨[(some (.ref 33)),(some (.ref 3)),(some (.ref 30)),none,(some (.str q41 187)),none,(some (.ref 0))]⟩
noncomputable abbrev o103:PO:=o0
noncomputable def o104:PO:=fun P=>Obj.mk (.type l3) none (.dict ⟨[(E P q40 214 (.str q41 187)),(E P q43 218 (I 4 217)),(E P q44 219 (.ref 35)),(E P q5 220 .none)]⟩ 2) ⟨[]⟩
noncomputable def o105:PO:=fun P=>Obj.mk (.type l8) none (.cls (PySem.ClassData.mk q14 [(.ref 24)] [(.ref 37),(.ref 24),(.type l5),(.type l9),(.type l10),(.type l11)] 36 q14 Bool.true [] [] Bool.false none Bool.false)) ⟨[(some (.ref 28)),none,(some (.str q14 207)),(some (.str q14 215)),(some (.builtin l12)),(some (.bool Bool.true))]⟩
noncomputable def o106:PO:=fun P=>Obj.mk (.type l15) none (.fields ⟨[(.ref 37),(.ref 37),(.ref 37)]⟩) ⟨[]⟩
noncomputable def o107:PO:=fun P=>Obj.mk (.type l6) none (.fields ⟨[(.builtin l16),(.ref 37)]⟩) ⟨[]⟩
noncomputable abbrev o108:PO:=o96
noncomputable abbrev o109:PO:=o67
noncomputable def o110:PO:=fun P=>Obj.mk (.type l3) none (.dict ⟨[(E P q40 230 (.str q41 187)),(E P q42 232 (.str q15 231)),(E P q43 234 (I 6 233)),(E P q44 235 (.ref 47))]⟩ 4) ⟨[]⟩
noncomputable abbrev o111:PO:=o0
noncomputable abbrev o112:PO:=o2
noncomputable def o113:PO:=fun P=>Obj.mk (.type l1) none (.fields ⟨[(.str q15 225),(.str q15 226),(.str q1 227),(I 6 0),(I 0 0),(I 0 0),(I 0 0),(I 0 0),(.ref 43),(.bool Bool.false),(I 181 0),(.ref 44),.none,.none,.none,.none,(I 228 0),(I 6 0),(.str q1 229)]⟩) ⟨[]⟩
noncomputable def o114:PO:=fun P=>Obj.mk (.type l2) none .plain ⟨[(some (.ref 45)),(some (.ref 3)),(some (.ref 42)),none,(some (.str q41 187)),none,(some (.ref 0))]⟩
noncomputable abbrev o115:PO:=o0
noncomputable def o116:PO:=fun P=>Obj.mk (.type l3) none (.dict ⟨[(E P q40 230 (.str q41 187)),(E P q43 234 (I 6 233)),(E P q44 235 (.ref 47)),(E P q5 236 .none)]⟩ 2) ⟨[]⟩
noncomputable def o117:PO:=fun P=>Obj.mk (.type l8) none (.cls (PySem.ClassData.mk q15 [(.ref 24)] [(.ref 49),(.ref 24),(.type l5),(.type l9),(.type l10),(.type l11)] 48 q15 Bool.true [] [] Bool.false none Bool.false)) ⟨[(some (.ref 40)),none,(some (.str q15 223)),(some (.str q15 231)),(some (.builtin l12)),(some (.bool Bool.true))]⟩
noncomputable def o118:PO:=fun P=>Obj.mk (.type l15) none (.fields ⟨[(.ref 49),(.ref 49),(.ref 49)]⟩) ⟨[]⟩
noncomputable def o119:PO:=fun P=>Obj.mk (.type l6) none (.fields ⟨[(.builtin l16),(.ref 49)]⟩) ⟨[]⟩
noncomputable abbrev o120:PO:=o96
noncomputable abbrev o121:PO:=o67
noncomputable def o122:PO:=fun P=>Obj.mk (.type l3) none (.dict ⟨[(E P q40 246 (.str q41 187)),(E P q42 248 (.str q16 247)),(E P q43 250 (I 8 249)),(E P q44 251 (.ref 59))]⟩ 4) ⟨[]⟩
noncomputable abbrev o123:PO:=o0
noncomputable abbrev o124:PO:=o2
noncomputable def o125:PO:=fun P=>Obj.mk (.type l1) none (.fields ⟨[(.str q16 241),(.str q16 242),(.str q1 243),(I 8 0),(I 0 0),(I 0 0),(I 0 0),(I 0 0),(.ref 55),(.bool Bool.false),(I 181 0),(.ref 56),.none,.none,.none,.none,(I 244 0),(I 8 0),(.str q1 245)]⟩) ⟨[]⟩
noncomputable def o126:PO:=fun P=>Obj.mk (.type l2) none .plain ⟨[(some (.ref 57)),(some (.ref 3)),(some (.ref 54)),none,(some (.str q41 187)),none,(some (.ref 0))]⟩
noncomputable abbrev o127:PO:=o0
noncomputable def o128:PO:=fun P=>Obj.mk (.type l3) none (.dict ⟨[(E P q40 246 (.str q41 187)),(E P q43 250 (I 8 249)),(E P q44 251 (.ref 59)),(E P q5 252 .none)]⟩ 2) ⟨[]⟩
noncomputable def o129:PO:=fun P=>Obj.mk (.type l8) none (.cls (PySem.ClassData.mk q16 [(.ref 24)] [(.ref 61),(.ref 24),(.type l5),(.type l9),(.type l10),(.type l11)] 60 q16 Bool.true [] [] Bool.false none Bool.false)) ⟨[(some (.ref 52)),none,(some (.str q16 239)),(some (.str q16 247)),(some (.builtin l12)),(some (.bool Bool.true))]⟩
noncomputable def o130:PO:=fun P=>Obj.mk (.type l15) none (.fields ⟨[(.ref 61),(.ref 61),(.ref 61)]⟩) ⟨[]⟩
noncomputable def o131:PO:=fun P=>Obj.mk (.type l6) none (.fields ⟨[(.builtin l16),(.ref 61)]⟩) ⟨[]⟩
noncomputable abbrev o132:PO:=o96
noncomputable abbrev o133:PO:=o67
noncomputable def o134:PO:=fun P=>Obj.mk (.type l3) none (.dict ⟨[(E P q40 262 (.str q41 187)),(E P q42 264 (.str q17 263)),(E P q43 266 (I 10 265)),(E P q44 267 (.ref 71))]⟩ 4) ⟨[]⟩
noncomputable abbrev o135:PO:=o0
noncomputable abbrev o136:PO:=o2
noncomputable def o137:PO:=fun P=>Obj.mk (.type l1) none (.fields ⟨[(.str q17 257),(.str q17 258),(.str q1 259),(I 10 0),(I 0 0),(I 0 0),(I 0 0),(I 0 0),(.ref 67),(.bool Bool.false),(I 181 0),(.ref 68),.none,.none,.none,.none,(I 260 0),(I 10 0),(.str q1 261)]⟩) ⟨[]⟩
noncomputable def o138:PO:=fun P=>Obj.mk (.type l2) none .plain ⟨[(some (.ref 69)),(some (.ref 3)),(some (.ref 66)),none,(some (.str q41 187)),none,(some (.ref 0))]⟩
noncomputable abbrev o139:PO:=o0
noncomputable def o140:PO:=fun P=>Obj.mk (.type l3) none (.dict ⟨[(E P q40 262 (.str q41 187)),(E P q43 266 (I 10 265)),(E P q44 267 (.ref 71)),(E P q5 268 .none)]⟩ 2) ⟨[]⟩
noncomputable def o141:PO:=fun P=>Obj.mk (.type l8) none (.cls (PySem.ClassData.mk q17 [(.ref 24)] [(.ref 73),(.ref 24),(.type l5),(.type l9),(.type l10),(.type l11)] 72 q17 Bool.true [] [] Bool.false none Bool.false)) ⟨[(some (.ref 64)),none,(some (.str q17 255)),(some (.str q17 263)),(some (.builtin l12)),(some (.bool Bool.true))]⟩
noncomputable def o142:PO:=fun P=>Obj.mk (.type l15) none (.fields ⟨[(.ref 73),(.ref 73),(.ref 73)]⟩) ⟨[]⟩
noncomputable def o143:PO:=fun P=>Obj.mk (.type l6) none (.fields ⟨[(.builtin l16),(.ref 73)]⟩) ⟨[]⟩
noncomputable abbrev o144:PO:=o96
noncomputable abbrev o145:PO:=o67
noncomputable def o146:PO:=fun P=>Obj.mk (.type l3) none (.dict ⟨[(E P q40 278 (.str q41 187)),(E P q42 280 (.str q18 279)),(E P q43 282 (I 12 281)),(E P q44 283 (.ref 83))]⟩ 4) ⟨[]⟩
noncomputable abbrev o147:PO:=o0
noncomputable abbrev o148:PO:=o2
noncomputable def o149:PO:=fun P=>Obj.mk (.type l1) none (.fields ⟨[(.str q18 273),(.str q18 274),(.str q1 275),(I 12 0),(I 0 0),(I 0 0),(I 0 0),(I 0 0),(.ref 79),(.bool Bool.false),(I 181 0),(.ref 80),.none,.none,.none,.none,(I 276 0),(I 12 0),(.str q1 277)]⟩) ⟨[]⟩
noncomputable def o150:PO:=fun P=>Obj.mk (.type l2) none .plain ⟨[(some (.ref 81)),(some (.ref 3)),(some (.ref 78)),none,(some (.str q41 187)),none,(some (.ref 0))]⟩
noncomputable abbrev o151:PO:=o0
noncomputable def o152:PO:=fun P=>Obj.mk (.type l3) none (.dict ⟨[(E P q40 278 (.str q41 187)),(E P q43 282 (I 12 281)),(E P q44 283 (.ref 83)),(E P q5 284 .none)]⟩ 2) ⟨[]⟩
noncomputable def o153:PO:=fun P=>Obj.mk (.type l8) none (.cls (PySem.ClassData.mk q18 [(.ref 24)] [(.ref 85),(.ref 24),(.type l5),(.type l9),(.type l10),(.type l11)] 84 q18 Bool.true [] [] Bool.false none Bool.false)) ⟨[(some (.ref 76)),none,(some (.str q18 271)),(some (.str q18 279)),(some (.builtin l12)),(some (.bool Bool.true))]⟩
noncomputable def o154:PO:=fun P=>Obj.mk (.type l15) none (.fields ⟨[(.ref 85),(.ref 85),(.ref 85)]⟩) ⟨[]⟩
noncomputable def o155:PO:=fun P=>Obj.mk (.type l6) none (.fields ⟨[(.builtin l16),(.ref 85)]⟩) ⟨[]⟩
noncomputable abbrev o156:PO:=o96
noncomputable abbrev o157:PO:=o67
noncomputable def o158:PO:=fun P=>Obj.mk (.type l3) none (.dict ⟨[(E P q40 294 (.str q41 187)),(E P q42 296 (.str q19 295)),(E P q43 298 (I 14 297)),(E P q44 299 (.ref 95))]⟩ 4) ⟨[]⟩
noncomputable abbrev o159:PO:=o0
noncomputable abbrev o160:PO:=o2
noncomputable def o161:PO:=fun P=>Obj.mk (.type l1) none (.fields ⟨[(.str q19 289),(.str q19 290),(.str q1 291),(I 14 0),(I 0 0),(I 0 0),(I 0 0),(I 0 0),(.ref 91),(.bool Bool.false),(I 181 0),(.ref 92),.none,.none,.none,.none,(I 292 0),(I 14 0),(.str q1 293)]⟩) ⟨[]⟩
noncomputable def o162:PO:=fun P=>Obj.mk (.type l2) none .plain ⟨[(some (.ref 93)),(some (.ref 3)),(some (.ref 90)),none,(some (.str q41 187)),none,(some (.ref 0))]⟩
noncomputable abbrev o163:PO:=o0
noncomputable def o164:PO:=fun P=>Obj.mk (.type l3) none (.dict ⟨[(E P q40 294 (.str q41 187)),(E P q43 298 (I 14 297)),(E P q44 299 (.ref 95)),(E P q5 300 .none)]⟩ 2) ⟨[]⟩
noncomputable def o165:PO:=fun P=>Obj.mk (.type l8) none (.cls (PySem.ClassData.mk q19 [(.ref 24)] [(.ref 97),(.ref 24),(.type l5),(.type l9),(.type l10),(.type l11)] 96 q19 Bool.true [] [] Bool.false none Bool.false)) ⟨[(some (.ref 88)),none,(some (.str q19 287)),(some (.str q19 295)),(some (.builtin l12)),(some (.bool Bool.true))]⟩
noncomputable def o166:PO:=fun P=>Obj.mk (.type l15) none (.fields ⟨[(.ref 97),(.ref 97),(.ref 97)]⟩) ⟨[]⟩
noncomputable def o167:PO:=fun P=>Obj.mk (.type l6) none (.fields ⟨[(.builtin l16),(.ref 97)]⟩) ⟨[]⟩
noncomputable abbrev o168:PO:=o96
noncomputable abbrev o169:PO:=o67
noncomputable def o170:PO:=fun P=>Obj.mk (.type l3) none (.dict ⟨[(E P q40 310 (.str q41 187)),(E P q42 312 (.str q20 311)),(E P q43 314 (I 16 313)),(E P q44 315 (.ref 107))]⟩ 4) ⟨[]⟩
noncomputable abbrev o171:PO:=o0
noncomputable abbrev o172:PO:=o2
noncomputable def o173:PO:=fun P=>Obj.mk (.type l1) none (.fields ⟨[(.str q20 305),(.str q20 306),(.str q1 307),(I 16 0),(I 0 0),(I 0 0),(I 0 0),(I 0 0),(.ref 103),(.bool Bool.false),(I 181 0),(.ref 104),.none,.none,.none,.none,(I 308 0),(I 16 0),(.str q1 309)]⟩) ⟨[]⟩
noncomputable def o174:PO:=fun P=>Obj.mk (.type l2) none .plain ⟨[(some (.ref 105)),(some (.ref 3)),(some (.ref 102)),none,(some (.str q41 187)),none,(some (.ref 0))]⟩
noncomputable abbrev o175:PO:=o0
noncomputable def o176:PO:=fun P=>Obj.mk (.type l3) none (.dict ⟨[(E P q40 310 (.str q41 187)),(E P q43 314 (I 16 313)),(E P q44 315 (.ref 107)),(E P q5 316 .none)]⟩ 2) ⟨[]⟩
noncomputable def o177:PO:=fun P=>Obj.mk (.type l8) none (.cls (PySem.ClassData.mk q20 [(.ref 24)] [(.ref 109),(.ref 24),(.type l5),(.type l9),(.type l10),(.type l11)] 108 q20 Bool.true [] [] Bool.false none Bool.false)) ⟨[(some (.ref 100)),none,(some (.str q20 303)),(some (.str q20 311)),(some (.builtin l12)),(some (.bool Bool.true))]⟩
noncomputable def o178:PO:=fun P=>Obj.mk (.type l15) none (.fields ⟨[(.ref 109),(.ref 109),(.ref 109)]⟩) ⟨[]⟩
noncomputable def o179:PO:=fun P=>Obj.mk (.type l6) none (.fields ⟨[(.builtin l16),(.ref 109)]⟩) ⟨[]⟩
noncomputable abbrev o180:PO:=o96
noncomputable abbrev o181:PO:=o67
noncomputable def o182:PO:=fun P=>Obj.mk (.type l3) none (.dict ⟨[(E P q40 326 (.str q41 187)),(E P q42 328 (.str q21 327)),(E P q43 330 (I 18 329)),(E P q44 331 (.ref 119))]⟩ 4) ⟨[]⟩
noncomputable abbrev o183:PO:=o0
noncomputable abbrev o184:PO:=o2
noncomputable def o185:PO:=fun P=>Obj.mk (.type l1) none (.fields ⟨[(.str q21 321),(.str q21 322),(.str q1 323),(I 18 0),(I 0 0),(I 0 0),(I 0 0),(I 0 0),(.ref 115),(.bool Bool.false),(I 181 0),(.ref 116),.none,.none,.none,.none,(I 324 0),(I 18 0),(.str q1 325)]⟩) ⟨[]⟩
noncomputable def o186:PO:=fun P=>Obj.mk (.type l2) none .plain ⟨[(some (.ref 117)),(some (.ref 3)),(some (.ref 114)),none,(some (.str q41 187)),none,(some (.ref 0))]⟩
noncomputable abbrev o187:PO:=o0
noncomputable def o188:PO:=fun P=>Obj.mk (.type l3) none (.dict ⟨[(E P q40 326 (.str q41 187)),(E P q43 330 (I 18 329)),(E P q44 331 (.ref 119)),(E P q5 332 .none)]⟩ 2) ⟨[]⟩
noncomputable def o189:PO:=fun P=>Obj.mk (.type l8) none (.cls (PySem.ClassData.mk q21 [(.ref 24)] [(.ref 121),(.ref 24),(.type l5),(.type l9),(.type l10),(.type l11)] 120 q21 Bool.true [] [] Bool.false none Bool.false)) ⟨[(some (.ref 112)),none,(some (.str q21 319)),(some (.str q21 327)),(some (.builtin l12)),(some (.bool Bool.true))]⟩
noncomputable def o190:PO:=fun P=>Obj.mk (.type l15) none (.fields ⟨[(.ref 121),(.ref 121),(.ref 121)]⟩) ⟨[]⟩
noncomputable def o191:PO:=fun P=>Obj.mk (.type l6) none (.fields ⟨[(.builtin l16),(.ref 121)]⟩) ⟨[]⟩
noncomputable abbrev o192:PO:=o96
noncomputable abbrev o193:PO:=o67
noncomputable def o194:PO:=fun P=>Obj.mk (.type l3) none (.dict ⟨[(E P q40 342 (.str q41 187)),(E P q42 344 (.str q22 343)),(E P q43 346 (I 20 345)),(E P q44 347 (.ref 131))]⟩ 4) ⟨[]⟩
noncomputable abbrev o195:PO:=o0
noncomputable abbrev o196:PO:=o2
noncomputable def o197:PO:=fun P=>Obj.mk (.type l1) none (.fields ⟨[(.str q22 337),(.str q22 338),(.str q1 339),(I 20 0),(I 0 0),(I 0 0),(I 0 0),(I 0 0),(.ref 127),(.bool Bool.false),(I 181 0),(.ref 128),.none,.none,.none,.none,(I 340 0),(I 20 0),(.str q1 341)]⟩) ⟨[]⟩
noncomputable def o198:PO:=fun P=>Obj.mk (.type l2) none .plain ⟨[(some (.ref 129)),(some (.ref 3)),(some (.ref 126)),none,(some (.str q41 187)),none,(some (.ref 0))]⟩
noncomputable abbrev o199:PO:=o0
noncomputable def o200:PO:=fun P=>Obj.mk (.type l3) none (.dict ⟨[(E P q40 342 (.str q41 187)),(E P q43 346 (I 20 345)),(E P q44 347 (.ref 131)),(E P q5 348 .none)]⟩ 2) ⟨[]⟩
noncomputable def o201:PO:=fun P=>Obj.mk (.type l8) none (.cls (PySem.ClassData.mk q22 [(.ref 24)] [(.ref 133),(.ref 24),(.type l5),(.type l9),(.type l10),(.type l11)] 132 q22 Bool.true [] [] Bool.false none Bool.false)) ⟨[(some (.ref 124)),none,(some (.str q22 335)),(some (.str q22 343)),(some (.builtin l12)),(some (.bool Bool.true))]⟩
noncomputable def o202:PO:=fun P=>Obj.mk (.type l15) none (.fields ⟨[(.ref 133),(.ref 133),(.ref 133)]⟩) ⟨[]⟩
noncomputable def o203:PO:=fun P=>Obj.mk (.type l6) none (.fields ⟨[(.builtin l16),(.ref 133)]⟩) ⟨[]⟩
noncomputable abbrev o204:PO:=o96
noncomputable abbrev o205:PO:=o67
noncomputable def o206:PO:=fun P=>Obj.mk (.type l3) none (.dict ⟨[(E P q40 358 (.str q41 187)),(E P q42 360 (.str q23 359)),(E P q43 362 (I 22 361)),(E P q44 363 (.ref 143))]⟩ 4) ⟨[]⟩
noncomputable abbrev o207:PO:=o0
noncomputable abbrev o208:PO:=o2
noncomputable def o209:PO:=fun P=>Obj.mk (.type l1) none (.fields ⟨[(.str q23 353),(.str q23 354),(.str q1 355),(I 22 0),(I 0 0),(I 0 0),(I 0 0),(I 0 0),(.ref 139),(.bool Bool.false),(I 181 0),(.ref 140),.none,.none,.none,.none,(I 356 0),(I 22 0),(.str q1 357)]⟩) ⟨[]⟩
noncomputable def o210:PO:=fun P=>Obj.mk (.type l2) none .plain ⟨[(some (.ref 141)),(some (.ref 3)),(some (.ref 138)),none,(some (.str q41 187)),none,(some (.ref 0))]⟩
noncomputable abbrev o211:PO:=o0
noncomputable def o212:PO:=fun P=>Obj.mk (.type l3) none (.dict ⟨[(E P q40 358 (.str q41 187)),(E P q43 362 (I 22 361)),(E P q44 363 (.ref 143)),(E P q5 364 .none)]⟩ 2) ⟨[]⟩
noncomputable def o213:PO:=fun P=>Obj.mk (.type l8) none (.cls (PySem.ClassData.mk q23 [(.ref 24)] [(.ref 145),(.ref 24),(.type l5),(.type l9),(.type l10),(.type l11)] 144 q23 Bool.true [] [] Bool.false none Bool.false)) ⟨[(some (.ref 136)),none,(some (.str q23 351)),(some (.str q23 359)),(some (.builtin l12)),(some (.bool Bool.true))]⟩
noncomputable def o214:PO:=fun P=>Obj.mk (.type l15) none (.fields ⟨[(.ref 145),(.ref 145),(.ref 145)]⟩) ⟨[]⟩
noncomputable def o215:PO:=fun P=>Obj.mk (.type l6) none (.fields ⟨[(.builtin l16),(.ref 145)]⟩) ⟨[]⟩
noncomputable abbrev o216:PO:=o96
noncomputable abbrev o217:PO:=o67
noncomputable def o218:PO:=fun P=>Obj.mk (.type l3) none (.dict ⟨[(E P q40 374 (.str q41 187)),(E P q42 376 (.str q24 375)),(E P q43 378 (I 24 377)),(E P q44 379 (.ref 155))]⟩ 4) ⟨[]⟩
noncomputable abbrev o219:PO:=o0
noncomputable abbrev o220:PO:=o2
noncomputable def o221:PO:=fun P=>Obj.mk (.type l1) none (.fields ⟨[(.str q24 369),(.str q24 370),(.str q1 371),(I 24 0),(I 0 0),(I 0 0),(I 0 0),(I 0 0),(.ref 151),(.bool Bool.false),(I 181 0),(.ref 152),.none,.none,.none,.none,(I 372 0),(I 24 0),(.str q1 373)]⟩) ⟨[]⟩
noncomputable def o222:PO:=fun P=>Obj.mk (.type l2) none .plain ⟨[(some (.ref 153)),(some (.ref 3)),(some (.ref 150)),none,(some (.str q41 187)),none,(some (.ref 0))]⟩
noncomputable abbrev o223:PO:=o0
noncomputable def o224:PO:=fun P=>Obj.mk (.type l3) none (.dict ⟨[(E P q40 374 (.str q41 187)),(E P q43 378 (I 24 377)),(E P q44 379 (.ref 155)),(E P q5 380 .none)]⟩ 2) ⟨[]⟩
noncomputable def o225:PO:=fun P=>Obj.mk (.type l8) none (.cls (PySem.ClassData.mk q24 [(.ref 24)] [(.ref 157),(.ref 24),(.type l5),(.type l9),(.type l10),(.type l11)] 156 q24 Bool.true [] [] Bool.false none Bool.false)) ⟨[(some (.ref 148)),none,(some (.str q24 367)),(some (.str q24 375)),(some (.builtin l12)),(some (.bool Bool.true))]⟩
noncomputable def o226:PO:=fun P=>Obj.mk (.type l15) none (.fields ⟨[(.ref 157),(.ref 157),(.ref 157)]⟩) ⟨[]⟩
noncomputable def o227:PO:=fun P=>Obj.mk (.type l6) none (.fields ⟨[(.builtin l16),(.ref 157)]⟩) ⟨[]⟩
noncomputable abbrev o228:PO:=o0
noncomputable abbrev o229:PO:=o2
noncomputable def q46:Str:=⟨⟨[111,110,101]⟩⟩
noncomputable def q47:Str:=⟨⟨[111,116,104,101,114]⟩⟩
noncomputable def q48:Str:=⟨⟨[103,114,101,97,116]⟩⟩
noncomputable def q49:Str:=⟨⟨[115,109,97,108,108]⟩⟩
noncomputable def q50:Str:=⟨⟨[108,101,102,116]⟩⟩
noncomputable def o230:PO:=fun P=>Obj.mk (.type l0) none (.seq ⟨[(.str q46 390),(.str q47 391),(.str q48 392),(.str q49 393),(.str q50 394)]⟩ 0) ⟨[]⟩
noncomputable abbrev o236:PO:=o0
noncomputable def o237:PO:=fun P=>Obj.mk .none none (.func { fnOf q26 q26 (L2.zD (tp 15)) (L2.zC (tp 15)) (L2.zA (tp 15)) .none .none .none .none none .none .none with globals:=0,builtins:=0 }) ⟨[]⟩
noncomputable def o238:PO:=fun P=>Obj.mk (.type l1) none (.fields ⟨[(.str q26 387),(.str q26 388),(.str q1 389),(I 28 0),(I 2 0),(I 0 0),(I 0 0),(I 3 0),(.ref 160),(.bool Bool.true),(I 181 0),(.ref 161),.none,(.ref 162),(.ref 163),(.ref 164),(I 395 0),(I 28 0),(.str q1 396)]⟩) ⟨[]⟩
noncomputable abbrev l17:String:=SL.s7174869446012820540x8
noncomputable def q51:Str:=⟨⟨[101,118,101,110,104,117,98,46,119,104,111,108,101,115]⟩⟩
noncomputable def o239:PO:=fun P=>Obj.mk (.type l17) none (.func (fnOf q26 q26 (L2.zD (tp 15)) (L2.zC (tp 15)) (L2.zA (tp 15)) .none .none .none (.str q51 383) none (.ref 165) .none)) ⟨[]⟩
noncomputable abbrev o242:PO:=o0
noncomputable abbrev o243:PO:=o2
noncomputable def o244:PO:=fun P=>Obj.mk (.type l0) none (.seq ⟨[(.str q46 401),(.str q47 402)]⟩ 0) ⟨[]⟩
noncomputable abbrev o245:PO:=o0
noncomputable def o246:PO:=fun P=>Obj.mk .none none (.func { fnOf q27 q27 (L2.zD (tp 16)) (L2.zC (tp 16)) (L2.zA (tp 16)) .none .none .none .none none .none .none with globals:=0,builtins:=0 }) ⟨[]⟩
noncomputable def o247:PO:=fun P=>Obj.mk (.type l1) none (.fields ⟨[(.str q27 398),(.str q27 399),(.str q1 400),(I 36 0),(I 2 0),(I 0 0),(I 0 0),(I 3 0),(.ref 167),(.bool Bool.true),(I 181 0),(.ref 168),.none,(.ref 169),(.ref 170),(.ref 171),(I 403 0),(I 36 0),(.str q1 404)]⟩) ⟨[]⟩
noncomputable def o248:PO:=fun P=>Obj.mk (.type l17) none (.func (fnOf q27 q27 (L2.zD (tp 16)) (L2.zC (tp 16)) (L2.zA (tp 16)) .none .none .none (.str q51 383) none (.ref 172) .none)) ⟨[]⟩
noncomputable abbrev o249:PO:=o0
noncomputable abbrev o250:PO:=o2
noncomputable def q52:Str:=⟨⟨[98,105,116,115]⟩⟩
noncomputable def q53:Str:=⟨⟨[114,101,115,116,115]⟩⟩
noncomputable def q54:Str:=⟨⟨[99,111,117,110,116,115]⟩⟩
noncomputable def q55:Str:=⟨⟨[116,117,114,110]⟩⟩
noncomputable def o251:PO:=fun P=>Obj.mk (.type l0) none (.seq ⟨[(.str q46 409),(.str q47 410),(.str q52 411),(.str q53 412),(.str q54 413),(.str q55 414)]⟩ 0) ⟨[]⟩
noncomputable abbrev o256:PO:=o0
noncomputable def o257:PO:=fun P=>Obj.mk .none none (.func { fnOf q28 q28 (L2.zD (tp 17)) (L2.zC (tp 17)) (L2.zA (tp 17)) .none .none .none .none none .none .none with globals:=0,builtins:=0 }) ⟨[]⟩
noncomputable def o258:PO:=fun P=>Obj.mk (.type l1) none (.fields ⟨[(.str q28 406),(.str q28 407),(.str q1 408),(I 38 0),(I 3 0),(I 0 0),(I 0 0),(I 3 0),(.ref 174),(.bool Bool.true),(I 181 0),(.ref 175),.none,(.ref 176),(.ref 177),(.ref 178),(I 415 0),(I 38 0),(.str q1 416)]⟩) ⟨[]⟩
noncomputable def o259:PO:=fun P=>Obj.mk (.type l17) none (.func (fnOf q28 q28 (L2.zD (tp 17)) (L2.zC (tp 17)) (L2.zA (tp 17)) .none .none .none (.str q51 383) none (.ref 179) .none)) ⟨[]⟩
noncomputable abbrev o260:PO:=o0
noncomputable abbrev o261:PO:=o2
noncomputable def q56:Str:=⟨⟨[112,97,105,114]⟩⟩
noncomputable def o262:PO:=fun P=>Obj.mk (.type l0) none (.seq ⟨[(.str q56 421),(.str q55 422)]⟩ 0) ⟨[]⟩
noncomputable abbrev o264:PO:=o0
noncomputable def o265:PO:=fun P=>Obj.mk .none none (.func { fnOf q29 q29 (L2.zD (tp 18)) (L2.zC (tp 18)) (L2.zA (tp 18)) .none .none .none .none none .none .none with globals:=0,builtins:=0 }) ⟨[]⟩
noncomputable def o266:PO:=fun P=>Obj.mk (.type l1) none (.fields ⟨[(.str q29 418),(.str q29 419),(.str q1 420),(I 46 0),(I 2 0),(I 0 0),(I 0 0),(I 3 0),(.ref 181),(.bool Bool.true),(I 181 0),(.ref 182),.none,(.ref 183),(.ref 184),(.ref 185),(I 423 0),(I 46 0),(.str q1 424)]⟩) ⟨[]⟩
noncomputable def o267:PO:=fun P=>Obj.mk (.type l17) none (.func (fnOf q29 q29 (L2.zD (tp 18)) (L2.zC (tp 18)) (L2.zA (tp 18)) .none .none .none (.str q51 383) none (.ref 186) .none)) ⟨[]⟩
noncomputable abbrev o268:PO:=o0
noncomputable abbrev o269:PO:=o2
noncomputable def q57:Str:=⟨⟨[108,101,110,103,116,104]⟩⟩
noncomputable def q58:Str:=⟨⟨[98,101,104,105,110,100]⟩⟩
noncomputable def o270:PO:=fun P=>Obj.mk (.type l0) none (.seq ⟨[(.str q53 429),(.str q52 430),(.str q57 431),(.str q58 432),(.str q55 433)]⟩ 0) ⟨[]⟩
noncomputable abbrev o273:PO:=o0
noncomputable def o274:PO:=fun P=>Obj.mk .none none (.func { fnOf q30 q30 (L2.zD (tp 19)) (L2.zC (tp 19)) (L2.zA (tp 19)) .none .none .none .none none .none .none with globals:=0,builtins:=0 }) ⟨[]⟩
noncomputable def o275:PO:=fun P=>Obj.mk (.type l1) none (.fields ⟨[(.str q30 426),(.str q30 427),(.str q1 428),(I 48 0),(I 2 0),(I 0 0),(I 0 0),(I 3 0),(.ref 188),(.bool Bool.true),(I 181 0),(.ref 189),.none,(.ref 190),(.ref 191),(.ref 192),(I 434 0),(I 48 0),(.str q1 435)]⟩) ⟨[]⟩
noncomputable def o276:PO:=fun P=>Obj.mk (.type l17) none (.func (fnOf q30 q30 (L2.zD (tp 19)) (L2.zC (tp 19)) (L2.zA (tp 19)) .none .none .none (.str q51 383) none (.ref 193) .none)) ⟨[]⟩
noncomputable abbrev o277:PO:=o0
noncomputable abbrev o278:PO:=o2
noncomputable def q59:Str:=⟨⟨[114,101,115,116]⟩⟩
noncomputable def q60:Str:=⟨⟨[108,97,116,101,114,95,114,101,115,116]⟩⟩
noncomputable def q61:Str:=⟨⟨[109,97,110,121]⟩⟩
noncomputable def q62:Str:=⟨⟨[110,101,119,95,114,101,115,116]⟩⟩
noncomputable def q63:Str:=⟨⟨[102,117,114,116,104,101,114]⟩⟩
noncomputable def q64:Str:=⟨⟨[100,111,117,98,116]⟩⟩
noncomputable def o279:PO:=fun P=>Obj.mk (.type l0) none (.seq ⟨[(.str q59 440),(.str q60 441),(.str q55 442),(.str q61 443),(.str q62 444),(.str q63 445),(.str q64 446)]⟩ 0) ⟨[]⟩
noncomputable abbrev o286:PO:=o0
noncomputable def o287:PO:=fun P=>Obj.mk .none none (.func { fnOf q31 q31 (L2.zD (tp 20)) (L2.zC (tp 20)) (L2.zA (tp 20)) .none .none .none .none none .none .none with globals:=0,builtins:=0 }) ⟨[]⟩
noncomputable def o288:PO:=fun P=>Obj.mk (.type l1) none (.fields ⟨[(.str q31 437),(.str q31 438),(.str q1 439),(I 56 0),(I 2 0),(I 0 0),(I 0 0),(I 3 0),(.ref 195),(.bool Bool.true),(I 181 0),(.ref 196),.none,(.ref 197),(.ref 198),(.ref 199),(I 447 0),(I 56 0),(.str q1 448)]⟩) ⟨[]⟩
noncomputable def o289:PO:=fun P=>Obj.mk (.type l17) none (.func (fnOf q31 q31 (L2.zD (tp 20)) (L2.zC (tp 20)) (L2.zA (tp 20)) .none .none .none (.str q51 383) none (.ref 200) .none)) ⟨[]⟩
noncomputable abbrev o290:PO:=o0
noncomputable abbrev o291:PO:=o2
noncomputable def o292:PO:=fun P=>Obj.mk .none none (.func { fnOf q33 q33 (L2.zD (tp 23)) (L2.zC (tp 23)) (L2.zA (tp 23)) .none .none .none .none none .none .none with globals:=0,builtins:=0 }) ⟨[]⟩
noncomputable def o293:PO:=fun P=>Obj.mk (.type l1) none (.fields ⟨[(.str q33 454),(.str q33 455),(.str q1 456),(I 71 0),(I 2 0),(I 0 0),(I 0 0),(I 3 0),(.ref 202),(.bool Bool.true),(I 181 0),(.ref 203),.none,.none,.none,(.ref 204),(I 457 0),(I 71 0),(.str q1 458)]⟩) ⟨[]⟩
noncomputable def q65:Str:=⟨⟨[101,118,101,110,104,117,98,46,108,111,97,100,115]⟩⟩
noncomputable def o294:PO:=fun P=>Obj.mk (.type l17) none (.func (fnOf q33 q33 (L2.zD (tp 23)) (L2.zC (tp 23)) (L2.zA (tp 23)) .none .none .none (.str q65 450) none (.ref 205) .none)) ⟨[]⟩
noncomputable abbrev o296:PO:=o0
noncomputable abbrev o297:PO:=o2
noncomputable def o298:PO:=fun P=>Obj.mk (.type l0) none (.seq ⟨[(.str q46 463),(.str q47 464)]⟩ 0) ⟨[]⟩
noncomputable abbrev o299:PO:=o0
noncomputable def o300:PO:=fun P=>Obj.mk .none none (.func { fnOf q34 q34 (L2.zD (tp 24)) (L2.zC (tp 24)) (L2.zA (tp 24)) .none .none .none .none none .none .none with globals:=0,builtins:=0 }) ⟨[]⟩
noncomputable def o301:PO:=fun P=>Obj.mk (.type l1) none (.fields ⟨[(.str q34 460),(.str q34 461),(.str q1 462),(I 74 0),(I 2 0),(I 0 0),(I 0 0),(I 3 0),(.ref 207),(.bool Bool.true),(I 181 0),(.ref 208),.none,(.ref 209),(.ref 210),(.ref 211),(I 465 0),(I 74 0),(.str q1 466)]⟩) ⟨[]⟩
noncomputable def o302:PO:=fun P=>Obj.mk (.type l17) none (.func (fnOf q34 q34 (L2.zD (tp 24)) (L2.zC (tp 24)) (L2.zA (tp 24)) .none .none .none (.str q65 450) none (.ref 212) .none)) ⟨[]⟩
noncomputable abbrev o303:PO:=o0
noncomputable abbrev o304:PO:=o2
noncomputable def o305:PO:=fun P=>Obj.mk .none none (.func { fnOf q35 q35 (L2.zD (tp 25)) (L2.zC (tp 25)) (L2.zA (tp 25)) .none .none .none .none none .none .none with globals:=0,builtins:=0 }) ⟨[]⟩
noncomputable def o306:PO:=fun P=>Obj.mk (.type l1) none (.fields ⟨[(.str q35 468),(.str q35 469),(.str q1 470),(I 77 0),(I 2 0),(I 0 0),(I 0 0),(I 3 0),(.ref 214),(.bool Bool.true),(I 181 0),(.ref 215),.none,.none,.none,(.ref 216),(I 471 0),(I 77 0),(.str q1 472)]⟩) ⟨[]⟩
noncomputable def o307:PO:=fun P=>Obj.mk (.type l17) none (.func (fnOf q35 q35 (L2.zD (tp 25)) (L2.zC (tp 25)) (L2.zA (tp 25)) .none .none .none (.str q65 450) none (.ref 217) .none)) ⟨[]⟩
noncomputable abbrev o308:PO:=o0
noncomputable abbrev o309:PO:=o2
noncomputable def q66:Str:=⟨⟨[108,111,97,100]⟩⟩
noncomputable def q67:Str:=⟨⟨[115,116,101,112]⟩⟩
noncomputable def q68:Str:=⟨⟨[110]⟩⟩
noncomputable def q69:Str:=⟨⟨[111,117,116,99,111,109,101]⟩⟩
noncomputable def q70:Str:=⟨⟨[104,111,108,101]⟩⟩
noncomputable def q71:Str:=⟨⟨[119,101,105,103,104,116]⟩⟩
noncomputable def o310:PO:=fun P=>Obj.mk (.type l0) none (.seq ⟨[(.str q66 477),(.str q67 478),(.str q68 479),(.str q69 480),(.str q70 481),(.str q71 482)]⟩ 0) ⟨[]⟩
noncomputable abbrev o317:PO:=o0
noncomputable def o318:PO:=fun P=>Obj.mk .none none (.func { fnOf q36 q36 (L2.zD (tp 26)) (L2.zC (tp 26)) (L2.zA (tp 26)) .none .none .none .none none .none .none with globals:=0,builtins:=0 }) ⟨[]⟩
noncomputable def o319:PO:=fun P=>Obj.mk (.type l1) none (.fields ⟨[(.str q36 474),(.str q36 475),(.str q1 476),(I 79 0),(I 2 0),(I 0 0),(I 0 0),(I 3 0),(.ref 219),(.bool Bool.true),(I 181 0),(.ref 220),.none,(.ref 221),(.ref 222),(.ref 223),(I 483 0),(I 79 0),(.str q1 484)]⟩) ⟨[]⟩
noncomputable def o320:PO:=fun P=>Obj.mk (.type l17) none (.func (fnOf q36 q36 (L2.zD (tp 26)) (L2.zC (tp 26)) (L2.zA (tp 26)) .none .none .none (.str q65 450) none (.ref 224) .none)) ⟨[]⟩
noncomputable abbrev o321:PO:=o0
noncomputable abbrev o322:PO:=o2
noncomputable def o323:PO:=fun P=>Obj.mk .none none (.func { fnOf q37 q37 (L2.zD (tp 27)) (L2.zC (tp 27)) (L2.zA (tp 27)) .none .none .none .none none .none .none with globals:=0,builtins:=0 }) ⟨[]⟩
noncomputable def o324:PO:=fun P=>Obj.mk (.type l1) none (.fields ⟨[(.str q37 486),(.str q37 487),(.str q1 488),(I 87 0),(I 2 0),(I 0 0),(I 0 0),(I 3 0),(.ref 226),(.bool Bool.true),(I 181 0),(.ref 227),.none,.none,.none,(.ref 228),(I 489 0),(I 87 0),(.str q1 490)]⟩) ⟨[]⟩
noncomputable def o325:PO:=fun P=>Obj.mk (.type l17) none (.func (fnOf q37 q37 (L2.zD (tp 27)) (L2.zC (tp 27)) (L2.zA (tp 27)) .none .none .none (.str q65 450) none (.ref 229) .none)) ⟨[]⟩
noncomputable abbrev o326:PO:=o0
noncomputable abbrev o327:PO:=o2
noncomputable def o328:PO:=fun P=>Obj.mk .none none (.func { fnOf q38 q38 (L2.zD (tp 28)) (L2.zC (tp 28)) (L2.zA (tp 28)) .none .none .none .none none .none .none with globals:=0,builtins:=0 }) ⟨[]⟩
noncomputable def o329:PO:=fun P=>Obj.mk (.type l1) none (.fields ⟨[(.str q38 492),(.str q38 493),(.str q1 494),(I 91 0),(I 3 0),(I 0 0),(I 0 0),(I 3 0),(.ref 231),(.bool Bool.true),(I 181 0),(.ref 232),.none,.none,.none,(.ref 233),(I 495 0),(I 91 0),(.str q1 496)]⟩) ⟨[]⟩
noncomputable def o330:PO:=fun P=>Obj.mk (.type l17) none (.func (fnOf q38 q38 (L2.zD (tp 28)) (L2.zC (tp 28)) (L2.zA (tp 28)) .none .none .none (.str q65 450) none (.ref 234) .none)) ⟨[]⟩
noncomputable abbrev o331:PO:=o0
noncomputable abbrev o332:PO:=o2
noncomputable def o333:PO:=fun P=>Obj.mk (.type l0) none (.seq ⟨[(.str q66 501),(.str q61 502),(.str q68 503),(.str q69 504),(.str q70 505),(.str q71 506)]⟩ 0) ⟨[]⟩
noncomputable abbrev o334:PO:=o0
noncomputable def o335:PO:=fun P=>Obj.mk .none none (.func { fnOf q39 q39 (L2.zD (tp 29)) (L2.zC (tp 29)) (L2.zA (tp 29)) .none .none .none .none none .none .none with globals:=0,builtins:=0 }) ⟨[]⟩
noncomputable def o336:PO:=fun P=>Obj.mk (.type l1) none (.fields ⟨[(.str q39 498),(.str q39 499),(.str q1 500),(I 94 0),(I 2 0),(I 0 0),(I 0 0),(I 3 0),(.ref 236),(.bool Bool.true),(I 181 0),(.ref 237),.none,(.ref 238),(.ref 239),(.ref 240),(I 507 0),(I 94 0),(.str q1 508)]⟩) ⟨[]⟩
noncomputable def o337:PO:=fun P=>Obj.mk (.type l17) none (.func (fnOf q39 q39 (L2.zD (tp 29)) (L2.zC (tp 29)) (L2.zA (tp 29)) .none .none .none (.str q65 450) none (.ref 241) .none)) ⟨[]⟩
noncomputable def T0:PySem.Params→PySem.W.BT:=fun P=>(.node (boot_o_0 P) (.node (boot_o_1 P) (.node (o24 P) (.node (boot_o_7 P) (.node (o65 P) (.node (o99 P) (.node (o131 P) (.node (o195 P) .nil .nil) (.node (o273 P) .nil .nil)) (.node (o163 P) (.node (o227 P) .nil .nil) (.node (o318 P) .nil .nil))) (.node (o115 P) (.node (o147 P) (.node (o211 P) .nil .nil) (.node (o296 P) .nil .nil)) (.node (o179 P) (.node (o250 P) .nil .nil) (.node (o334 P) .nil .nil)))) (.node (o82 P) (.node (o107 P) (.node (o139 P) (.node (o203 P) .nil .nil) (.node (o287 P) .nil .nil)) (.node (o171 P) (.node (o242 P) .nil .nil) (.node (o326 P) .nil .nil))) (.node (o123 P) (.node (o155 P) (.node (o219 P) .nil .nil) (.node (o304 P) .nil .nil)) (.node (o187 P) (.node (o262 P) .nil .nil) .nil)))) (.node (o0 P) (.node (o78 P) (.node (o103 P) (.node (o135 P) (.node (o199 P) .nil .nil) (.node (o277 P) .nil .nil)) (.node (o167 P) (.node (o236 P) .nil .nil) (.node (o322 P) .nil .nil))) (.node (o119 P) (.node (o151 P) (.node (o215 P) .nil .nil) (.node (o300 P) .nil .nil)) (.node (o183 P) (.node (o258 P) .nil .nil) .nil))) (.node (o94 P) (.node (o111 P) (.node (o143 P) (.node (o207 P) .nil .nil) (.node (o291 P) .nil .nil)) (.node (o175 P) (.node (o246 P) .nil .nil) (.node (o330 P) .nil .nil))) (.node (o127 P) (.node (o159 P) (.node (o223 P) .nil .nil) (.node (o308 P) .nil .nil)) (.node (o191 P) (.node (o267 P) .nil .nil) .nil))))) (.node (boot_o_5 P) (.node (boot_o_9 P) (.node (o71 P) (.node (o101 P) (.node (o133 P) (.node (o197 P) .nil .nil) (.node (o275 P) .nil .nil)) (.node (o165 P) (.node (o229 P) .nil .nil) (.node (o320 P) .nil .nil))) (.node (o117 P) (.node (o149 P) (.node (o213 P) .nil .nil) (.node (o298 P) .nil .nil)) (.node (o181 P) (.node (o256 P) .nil .nil) (.node (o336 P) .nil .nil)))) (.node (o89 P) (.node (o109 P) (.node (o141 P) (.node (o205 P) .nil .nil) (.node (o289 P) .nil .nil)) (.node (o173 P) (.node (o244 P) .nil .nil) (.node (o328 P) .nil .nil))) (.node (o125 P) (.node (o157 P) (.node (o221 P) .nil .nil) (.node (o306 P) .nil .nil)) (.node (o189 P) (.node (o265 P) .nil .nil) .nil)))) (.node (o3 P) (.node (o80 P) (.node (o105 P) (.node (o137 P) (.node (o201 P) .nil .nil) (.node (o279 P) .nil .nil)) (.node (o169 P) (.node (o238 P) .nil .nil) (.node (o324 P) .nil .nil))) (.node (o121 P) (.node (o153 P) (.node (o217 P) .nil .nil) (.node (o302 P) .nil .nil)) (.node (o185 P) (.node (o260 P) .nil .nil) .nil))) (.node (o97 P) (.node (o113 P) (.node (o145 P) (.node (o209 P) .nil .nil) (.node (o293 P) .nil .nil)) (.node (o177 P) (.node (o248 P) .nil .nil) (.node (o332 P) .nil .nil))) (.node (o129 P) (.node (o161 P) (.node (o225 P) .nil .nil) (.node (o310 P) .nil .nil)) (.node (o193 P) (.node (o269 P) .nil .nil) .nil)))))) (.node (boot_o_2 P) (.node (boot_o_4 P) (.node (boot_o_8 P) (.node (o67 P) (.node (o100 P) (.node (o132 P) (.node (o196 P) .nil .nil) (.node (o274 P) .nil .nil)) (.node (o164 P) (.node (o228 P) .nil .nil) (.node (o319 P) .nil .nil))) (.node (o116 P) (.node (o148 P) (.node (o212 P) .nil .nil) (.node (o297 P) .nil .nil)) (.node (o180 P) (.node (o251 P) .nil .nil) (.node (o335 P) .nil .nil)))) (.node (o84 P) (.node (o108 P) (.node (o140 P) (.node (o204 P) .nil .nil) (.node (o288 P) .nil .nil)) (.node (o172 P) (.node (o243 P) .nil .nil) (.node (o327 P) .nil .nil))) (.node (o124 P) (.node (o156 P) (.node (o220 P) .nil .nil) (.node (o305 P) .nil .nil)) (.node (o188 P) (.node (o264 P) .nil .nil) .nil)))) (.node (o64 P) (.node (o79 P) (.node (o104 P) (.node (o136 P) (.node (o200 P) .nil .nil) (.node (o278 P) .nil .nil)) (.node (o168 P) (.node (o237 P) .nil .nil) (.node (o323 P) .nil .nil))) (.node (o120 P) (.node (o152 P) (.node (o216 P) .nil .nil) (.node (o301 P) .nil .nil)) (.node (o184 P) (.node (o259 P) .nil .nil) .nil))) (.node (o96 P) (.node (o112 P) (.node (o144 P) (.node (o208 P) .nil .nil) (.node (o292 P) .nil .nil)) (.node (o176 P) (.node (o247 P) .nil .nil) (.node (o331 P) .nil .nil))) (.node (o128 P) (.node (o160 P) (.node (o224 P) .nil .nil) (.node (o309 P) .nil .nil)) (.node (o192 P) (.node (o268 P) .nil .nil) .nil))))) (.node (boot_o_6 P) (.node (boot_o_10 P) (.node (o77 P) (.node (o102 P) (.node (o134 P) (.node (o198 P) .nil .nil) (.node (o276 P) .nil .nil)) (.node (o166 P) (.node (o230 P) .nil .nil) (.node (o321 P) .nil .nil))) (.node (o118 P) (.node (o150 P) (.node (o214 P) .nil .nil) (.node (o299 P) .nil .nil)) (.node (o182 P) (.node (o257 P) .nil .nil) (.node (o337 P) .nil .nil)))) (.node (o92 P) (.node (o110 P) (.node (o142 P) (.node (o206 P) .nil .nil) (.node (o290 P) .nil .nil)) (.node (o174 P) (.node (o245 P) .nil .nil) (.node (o329 P) .nil .nil))) (.node (o126 P) (.node (o158 P) (.node (o222 P) .nil .nil) (.node (o307 P) .nil .nil)) (.node (o190 P) (.node (o266 P) .nil .nil) .nil)))) (.node (o7 P) (.node (o81 P) (.node (o106 P) (.node (o138 P) (.node (o202 P) .nil .nil) (.node (o286 P) .nil .nil)) (.node (o170 P) (.node (o239 P) .nil .nil) (.node (o325 P) .nil .nil))) (.node (o122 P) (.node (o154 P) (.node (o218 P) .nil .nil) (.node (o303 P) .nil .nil)) (.node (o186 P) (.node (o261 P) .nil .nil) .nil))) (.node (o98 P) (.node (o114 P) (.node (o146 P) (.node (o210 P) .nil .nil) (.node (o294 P) .nil .nil)) (.node (o178 P) (.node (o249 P) .nil .nil) (.node (o333 P) .nil .nil))) (.node (o130 P) (.node (o162 P) (.node (o226 P) .nil .nil) (.node (o317 P) .nil .nil)) (.node (o194 P) (.node (o270 P) .nil .nil) .nil)))))))
noncomputable def St0 (w:PySem.World)(os:PySem.OsState):PySem.W.SharedT:=PySem.W.SharedT.mk (T0 w.params) 243 (PySem.Life.mk [] [] [] 0 [] [] Bool.false ⟨[]⟩ [] 0 Bool.false Bool.false Bool.false (Int.ofNat 0) [(Int.ofNat 2000),(Int.ofNat 10),(Int.ofNat 10)] Bool.false 0 Bool.true [] [] 0 Bool.false) (Array.mk []) (PySem.Drawn.mk 0 0 0 0) 512 os
noncomputable def q72:Str:=⟨⟨[108,97,119,95,101,118,101,110,104,117,98,95,107,53,57,95,97,108,108,95,115,105,100,101,115]⟩⟩
noncomputable def q73:Str:=⟨⟨[112,97,114,116,115]⟩⟩
noncomputable def q74:Str:=⟨⟨[112,114,105,109,101,95,112,111,119,101,114]⟩⟩
noncomputable def q75:Str:=⟨⟨[117,110,105,116,115]⟩⟩
noncomputable def q76:Str:=⟨⟨[98,97,99,107]⟩⟩
noncomputable def q77:Str:=⟨⟨[108,97,121,95,114,105,110,103]⟩⟩
noncomputable def q78:Str:=⟨⟨[114,105,110,103,95,104,111,108,101,115]⟩⟩
noncomputable def q79:Str:=⟨⟨[102,105,114,115,116,95,100,114,111,112,112,101,100]⟩⟩
noncomputable def q80:Str:=⟨⟨[100,114,111,112,112,101,100]⟩⟩
noncomputable def q81:Str:=⟨⟨[118,97,108,117,101]⟩⟩
noncomputable def q82:Str:=⟨⟨[100,105,118,105,115,111,114,95,111,102,95,97,108,108]⟩⟩
noncomputable def q83:Str:=⟨⟨[119,104,111,108,101]⟩⟩
noncomputable def q84:Str:=⟨⟨[111,110]⟩⟩
noncomputable def q85:Str:=⟨⟨[106,111,105,110,116,95,119,104,101,101,108]⟩⟩
noncomputable def q86:Str:=⟨⟨[114,97,105,115,101,100]⟩⟩
noncomputable def q87:Str:=⟨⟨[97,100,100,101,100]⟩⟩
noncomputable def q88:Str:=⟨⟨[116,105,109,101,115]⟩⟩
noncomputable def q89:Str:=⟨⟨[77,79,83,84,95,72,79,76,69,83,95,83,73,68,69,68]⟩⟩
noncomputable def q90:Str:=⟨⟨[115,105,100,101]⟩⟩
noncomputable def q91:Str:=⟨⟨[99,104,101,99,107,95,115,105,100,101,100]⟩⟩
noncomputable def q92:Str:=⟨⟨[115,105,100,101,115]⟩⟩
noncomputable def q93:Str:=⟨⟨[115,105,100,101,95,115,117,109]⟩⟩
noncomputable def q94:Str:=⟨⟨[115,105,100,101,95,112,114,111,100,117,99,116]⟩⟩
noncomputable def q95:Str:=⟨⟨[112,111,119,101,114,115,95,111,117,116,115,105,100,101]⟩⟩
noncomputable def q96:Str:=⟨⟨[112,114,111,100,117,99,116,95,98,121,95,112,111,119,101,114,115]⟩⟩
noncomputable def q97:Str:=⟨⟨[106,111,105,110,101,100]⟩⟩
noncomputable def q98:Str:=⟨⟨[95,108,97,119,95,99,101,108,108,95,97,116]⟩⟩
noncomputable def q99:Str:=⟨⟨[95,108,97,119,95,119,104,111,108,101]⟩⟩
noncomputable def q100:Str:=⟨⟨[95,108,97,119,95,112,108,97,105,110]⟩⟩
noncomputable def q101:Str:=⟨⟨[95,108,97,119,95,100,105,118,105,115,111,114]⟩⟩
noncomputable def q102:Str:=⟨⟨[95,108,97,119,95,108,111,97,100]⟩⟩
noncomputable def q103:Str:=⟨⟨[95,108,97,119,95,115,107,105,112,112,101,100]⟩⟩
noncomputable def q104:Str:=⟨⟨[95,108,97,119,95,103,97,116,104,101,114,101,100]⟩⟩
noncomputable def q105:Str:=⟨⟨[95,108,97,119,95,98,111,116,116,111,109]⟩⟩
noncomputable def q106:Str:=⟨⟨[95,108,97,119,95,97,115,107]⟩⟩
noncomputable def q107:Str:=⟨⟨[95,108,97,119,95,114,101,102,117,115,101,100]⟩⟩
noncomputable def q108:Str:=⟨⟨[95,108,97,119,95,114,101,102,117,115,101,100,95,98,121,95,98,97,115,101]⟩⟩
noncomputable def q109:Str:=⟨⟨[95,108,97,119,95,119,104,101,101,108]⟩⟩
noncomputable def q110:Str:=⟨⟨[108,97,119]⟩⟩
noncomputable def o341:PO:=fun P=>Obj.mk (.type l3) none (.dict ⟨[(E P q3 165 (.str q72 740)),(E P q5 166 .none),(E P q6 167 .none),(E P q7 168 (.builtin l4)),(E P q8 169 .none),(E P q9 170 (.ref 6)),(E P q10 171 (.ref 4)),(E P q11 173 (.str q1 172)),(E P q12 174 .none),(E P q13 206 (.ref 24)),(E P q14 222 (.ref 37)),(E P q15 238 (.ref 49)),(E P q16 254 (.ref 61)),(E P q17 270 (.ref 73)),(E P q18 286 (.ref 85)),(E P q19 302 (.ref 97)),(E P q20 318 (.ref 109)),(E P q21 334 (.ref 121)),(E P q22 350 (.ref 133)),(E P q23 366 (.ref 145)),(E P q24 382 (.ref 157)),(E P q25 386 (I 128 385)),(E P q26 397 (.ref 166)),(E P q27 405 (.ref 173)),(E P q28 417 (.ref 180)),(E P q29 425 (.ref 187)),(E P q30 436 (.ref 194)),(E P q31 449 (.ref 201)),(E P q32 453 (I 420 452)),(E P q33 459 (.ref 206)),(E P q34 467 (.ref 213)),(E P q35 473 (.ref 218)),(E P q36 485 (.ref 225)),(E P q37 491 (.ref 230)),(E P q38 497 (.ref 235)),(E P q39 509 (.ref 242)),(E P q73 522 (.ref 249)),(E P q74 531 (.ref 256)),(E P q75 537 (.ref 261)),(E P q76 546 (.ref 268)),(E P q77 559 (.ref 275)),(E P q78 569 (.ref 282)),(E P q79 579 (.ref 289)),(E P q59 593 (.ref 296)),(E P q80 599 (.ref 301)),(E P q81 607 (.ref 306)),(E P q82 617 (.ref 313)),(E P q83 624 (.ref 320)),(E P q84 632 (.ref 327)),(E P q85 641 (.ref 334)),(E P q86 650 (.ref 341)),(E P q87 659 (.ref 348)),(E P q88 668 (.ref 355)),(E P q89 672 (I 60 671)),(E P q90 680 (.ref 362)),(E P q91 687 (.ref 369)),(E P q92 696 (.ref 376)),(E P q93 705 (.ref 383)),(E P q94 711 (.ref 388)),(E P q95 722 (.ref 395)),(E P q96 733 (.ref 402)),(E P q97 739 (.ref 407)),(E P q98 749 (.ref 414)),(E P q99 756 (.ref 421)),(E P q100 762 (.ref 426)),(E P q101 770 (.ref 433)),(E P q102 783 (.ref 440)),(E P q103 794 (.ref 447)),(E P q104 800 (.ref 452)),(E P q105 809 (.ref 459)),(E P q106 817 (.ref 466)),(E P q107 828 (.ref 473)),(E P q108 838 (.ref 480)),(E P q109 845 (.ref 487)),(E P q110 851 (.ref 492))]⟩ 75) ⟨[]⟩
noncomputable def o381:PO:=fun P=>Obj.mk .none none (.fields ⟨[(I 2 0),(I 0 0),(.ref 20),(I 4 0),(I 0 0),(.ref 33),(I 6 0),(I 0 0),(.ref 45),(I 8 0),(I 0 0),(.ref 57),(I 10 0),(I 0 0),(.ref 69),(I 12 0),(I 0 0),(.ref 81),(I 14 0),(I 0 0),(.ref 93),(I 16 0),(I 0 0),(.ref 105),(I 18 0),(I 0 0),(.ref 117),(I 20 0),(I 0 0),(.ref 129),(I 22 0),(I 0 0),(.ref 141),(I 24 0),(I 0 0),(.ref 153),(I 28 0),(I 0 0),(.ref 165),(I 36 0),(I 0 0),(.ref 172),(I 38 0),(I 0 0),(.ref 179),(I 46 0),(I 0 0),(.ref 186),(I 48 0),(I 0 0),(.ref 193),(I 56 0),(I 0 0),(.ref 200),(I 71 0),(I 0 0),(.ref 205),(I 74 0),(I 0 0),(.ref 212),(I 77 0),(I 0 0),(.ref 217),(I 79 0),(I 0 0),(.ref 224),(I 87 0),(I 0 0),(.ref 229),(I 91 0),(I 0 0),(.ref 234),(I 94 0),(I 0 0),(.ref 241),(I 103 0),(I 0 0),(.ref 248),(I 116 0),(I 0 0),(.ref 255),(I 121 0),(I 0 0),(.ref 260),(I 123 0),(I 0 0),(.ref 267),(I 129 0),(I 0 0),(.ref 274),(I 132 0),(I 0 0),(.ref 281),(I 136 0),(I 0 0),(.ref 288),(I 138 0),(I 0 0),(.ref 295),(I 149 0),(I 0 0),(.ref 300),(I 153 0),(I 0 0),(.ref 305),(I 164 0),(I 0 0),(.ref 312),(I 169 0),(I 0 0),(.ref 319),(I 171 0),(I 0 0),(.ref 326),(I 175 0),(I 0 0),(.ref 333),(I 180 0),(I 0 0),(.ref 340),(I 182 0),(I 0 0),(.ref 347),(I 185 0),(I 0 0),(.ref 354),(I 190 0),(I 0 0),(.ref 361),(I 192 0),(I 0 0),(.ref 368),(I 195 0),(I 0 0),(.ref 375),(I 201 0),(I 0 0),(.ref 382),(I 206 0),(I 0 0),(.ref 387),(I 216 0),(I 0 0),(.ref 394),(I 223 0),(I 0 0),(.ref 401),(I 232 0),(I 0 0),(.ref 406),(I 238 0),(I 0 0),(.ref 413),(I 242 0),(I 0 0),(.ref 420),(I 244 0),(I 0 0),(.ref 425),(I 250 0),(I 0 0),(.ref 432),(I 256 0),(I 0 0),(.ref 439),(I 262 0),(I 0 0),(.ref 446),(I 268 0),(I 0 0),(.ref 451),(I 278 0),(I 0 0),(.ref 458),(I 283 0),(I 0 0),(.ref 465),(I 290 0),(I 0 0),(.ref 472),(I 300 0),(I 0 0),(.ref 479),(I 307 0),(I 0 0),(.ref 486),(I 313 0),(I 0 0),(.ref 491)]⟩) ⟨[]⟩
noncomputable abbrev o382:PO:=o0
noncomputable abbrev o383:PO:=o2
noncomputable def q111:Str:=⟨⟨[102,111,117,110,100]⟩⟩
noncomputable def q112:Str:=⟨⟨[112]⟩⟩
noncomputable def q113:Str:=⟨⟨[113]⟩⟩
noncomputable def o384:PO:=fun P=>Obj.mk (.type l0) none (.seq ⟨[(.str q68 515),(.str q111 516),(.str q50 517),(.str q112 518),(.str q113 519)]⟩ 0) ⟨[]⟩
noncomputable abbrev o388:PO:=o0
noncomputable def o389:PO:=fun P=>Obj.mk .none none (.func { fnOf q73 q73 (L2.zD (tp 31)) (L2.zC (tp 31)) (L2.zA (tp 31)) .none .none .none .none none .none .none with globals:=0,builtins:=0 }) ⟨[]⟩
noncomputable def o390:PO:=fun P=>Obj.mk (.type l1) none (.fields ⟨[(.str q73 512),(.str q73 513),(.str q1 514),(I 103 0),(I 1 0),(I 0 0),(I 0 0),(I 3 0),(.ref 243),(.bool Bool.true),(I 181 0),(.ref 244),.none,(.ref 245),(.ref 246),(.ref 247),(I 520 0),(I 103 0),(.str q1 521)]⟩) ⟨[]⟩
noncomputable def o391:PO:=fun P=>Obj.mk (.type l17) none (.func (fnOf q73 q73 (L2.zD (tp 31)) (L2.zC (tp 31)) (L2.zA (tp 31)) .none .none .none (.str q4 510) none (.ref 248) .none)) ⟨[]⟩
noncomputable abbrev o392:PO:=o0
noncomputable abbrev o393:PO:=o2
noncomputable def o394:PO:=fun P=>Obj.mk (.type l0) none (.seq ⟨[(.str q68 526),(.str q112 527),(.str q113 528)]⟩ 0) ⟨[]⟩
noncomputable abbrev o395:PO:=o0
noncomputable def o396:PO:=fun P=>Obj.mk .none none (.func { fnOf q74 q74 (L2.zD (tp 32)) (L2.zC (tp 32)) (L2.zA (tp 32)) .none .none .none .none none .none .none with globals:=0,builtins:=0 }) ⟨[]⟩
noncomputable def o397:PO:=fun P=>Obj.mk (.type l1) none (.fields ⟨[(.str q74 523),(.str q74 524),(.str q1 525),(I 116 0),(I 2 0),(I 0 0),(I 0 0),(I 3 0),(.ref 250),(.bool Bool.true),(I 181 0),(.ref 251),.none,(.ref 252),(.ref 253),(.ref 254),(I 529 0),(I 116 0),(.str q1 530)]⟩) ⟨[]⟩
noncomputable def o398:PO:=fun P=>Obj.mk (.type l17) none (.func (fnOf q74 q74 (L2.zD (tp 32)) (L2.zC (tp 32)) (L2.zA (tp 32)) .none .none .none (.str q4 510) none (.ref 255) .none)) ⟨[]⟩
noncomputable abbrev o399:PO:=o0
noncomputable abbrev o400:PO:=o2
noncomputable def o401:PO:=fun P=>Obj.mk .none none (.func { fnOf q75 q75 (L2.zD (tp 33)) (L2.zC (tp 33)) (L2.zA (tp 33)) .none .none .none .none none .none .none with globals:=0,builtins:=0 }) ⟨[]⟩
noncomputable def o402:PO:=fun P=>Obj.mk (.type l1) none (.fields ⟨[(.str q75 532),(.str q75 533),(.str q1 534),(I 121 0),(I 1 0),(I 0 0),(I 0 0),(I 3 0),(.ref 257),(.bool Bool.true),(I 181 0),(.ref 258),.none,.none,.none,(.ref 259),(I 535 0),(I 121 0),(.str q1 536)]⟩) ⟨[]⟩
noncomputable def o403:PO:=fun P=>Obj.mk (.type l17) none (.func (fnOf q75 q75 (L2.zD (tp 33)) (L2.zC (tp 33)) (L2.zA (tp 33)) .none .none .none (.str q4 510) none (.ref 260) .none)) ⟨[]⟩
noncomputable abbrev o404:PO:=o0
noncomputable abbrev o405:PO:=o2
noncomputable def q114:Str:=⟨⟨[116,111,108,100]⟩⟩
noncomputable def o406:PO:=fun P=>Obj.mk (.type l0) none (.seq ⟨[(.str q67 541),(.str q68 542),(.str q114 543)]⟩ 0) ⟨[]⟩
noncomputable abbrev o408:PO:=o0
noncomputable def o409:PO:=fun P=>Obj.mk .none none (.func { fnOf q76 q76 (L2.zD (tp 34)) (L2.zC (tp 34)) (L2.zA (tp 34)) .none .none .none .none none .none .none with globals:=0,builtins:=0 }) ⟨[]⟩
noncomputable def o410:PO:=fun P=>Obj.mk (.type l1) none (.fields ⟨[(.str q76 538),(.str q76 539),(.str q1 540),(I 123 0),(I 2 0),(I 0 0),(I 0 0),(I 3 0),(.ref 262),(.bool Bool.true),(I 181 0),(.ref 263),.none,(.ref 264),(.ref 265),(.ref 266),(I 544 0),(I 123 0),(.str q1 545)]⟩) ⟨[]⟩
noncomputable def o411:PO:=fun P=>Obj.mk (.type l17) none (.func (fnOf q76 q76 (L2.zD (tp 34)) (L2.zC (tp 34)) (L2.zA (tp 34)) .none .none .none (.str q4 510) none (.ref 267) .none)) ⟨[]⟩
noncomputable abbrev o412:PO:=o0
noncomputable abbrev o413:PO:=o2
noncomputable def q115:Str:=⟨⟨[112,108,97,99,101]⟩⟩
noncomputable def o414:PO:=fun P=>Obj.mk (.type l0) none (.seq ⟨[(.str q66 552),(.str q112 553),(.str q70 554),(.str q61 555),(.str q115 556)]⟩ 0) ⟨[]⟩
noncomputable abbrev o416:PO:=o0
noncomputable def o417:PO:=fun P=>Obj.mk .none none (.func { fnOf q77 q77 (L2.zD (tp 36)) (L2.zC (tp 36)) (L2.zA (tp 36)) .none .none .none .none none .none .none with globals:=0,builtins:=0 }) ⟨[]⟩
noncomputable def o418:PO:=fun P=>Obj.mk (.type l1) none (.fields ⟨[(.str q77 549),(.str q77 550),(.str q1 551),(I 129 0),(I 4 0),(I 0 0),(I 0 0),(I 3 0),(.ref 269),(.bool Bool.true),(I 181 0),(.ref 270),.none,(.ref 271),(.ref 272),(.ref 273),(I 557 0),(I 129 0),(.str q1 558)]⟩) ⟨[]⟩
noncomputable def q116:Str:=⟨⟨[101,118,101,110,104,117,98,46,114,105,110,103,115]⟩⟩
noncomputable def o419:PO:=fun P=>Obj.mk (.type l17) none (.func (fnOf q77 q77 (L2.zD (tp 36)) (L2.zC (tp 36)) (L2.zA (tp 36)) .none .none .none (.str q116 547) none (.ref 274) .none)) ⟨[]⟩
noncomputable abbrev o421:PO:=o0
noncomputable abbrev o422:PO:=o2
noncomputable def o423:PO:=fun P=>Obj.mk (.type l0) none (.seq ⟨[(.str q68 563),(.str q112 564),(.str q70 565),(.str q67 566)]⟩ 0) ⟨[]⟩
noncomputable abbrev o424:PO:=o0
noncomputable def o425:PO:=fun P=>Obj.mk .none none (.func { fnOf q78 q78 (L2.zD (tp 37)) (L2.zC (tp 37)) (L2.zA (tp 37)) .none .none .none .none none .none .none with globals:=0,builtins:=0 }) ⟨[]⟩
noncomputable def o426:PO:=fun P=>Obj.mk (.type l1) none (.fields ⟨[(.str q78 560),(.str q78 561),(.str q1 562),(I 132 0),(I 3 0),(I 0 0),(I 0 0),(I 3 0),(.ref 276),(.bool Bool.true),(I 181 0),(.ref 277),.none,(.ref 278),(.ref 279),(.ref 280),(I 567 0),(I 132 0),(.str q1 568)]⟩) ⟨[]⟩
noncomputable def o427:PO:=fun P=>Obj.mk (.type l17) none (.func (fnOf q78 q78 (L2.zD (tp 37)) (L2.zC (tp 37)) (L2.zA (tp 37)) .none .none .none (.str q116 547) none (.ref 281) .none)) ⟨[]⟩
noncomputable abbrev o428:PO:=o0
noncomputable abbrev o429:PO:=o2
noncomputable def o430:PO:=fun P=>Obj.mk (.type l0) none (.seq ⟨[(.str q112 575),(.str q113 576)]⟩ 0) ⟨[]⟩
noncomputable abbrev o431:PO:=o0
noncomputable def o432:PO:=fun P=>Obj.mk .none none (.func { fnOf q79 q79 (L2.zD (tp 39)) (L2.zC (tp 39)) (L2.zA (tp 39)) .none .none .none .none none .none .none with globals:=0,builtins:=0 }) ⟨[]⟩
noncomputable def o433:PO:=fun P=>Obj.mk (.type l1) none (.fields ⟨[(.str q79 572),(.str q79 573),(.str q1 574),(I 136 0),(I 2 0),(I 0 0),(I 0 0),(I 3 0),(.ref 283),(.bool Bool.true),(I 181 0),(.ref 284),.none,(.ref 285),(.ref 286),(.ref 287),(I 577 0),(I 136 0),(.str q1 578)]⟩) ⟨[]⟩
noncomputable def q117:Str:=⟨⟨[101,118,101,110,104,117,98,46,114,101,115,116,115]⟩⟩
noncomputable def o434:PO:=fun P=>Obj.mk (.type l17) none (.func (fnOf q79 q79 (L2.zD (tp 39)) (L2.zC (tp 39)) (L2.zA (tp 39)) .none .none .none (.str q117 570) none (.ref 288) .none)) ⟨[]⟩
noncomputable abbrev o436:PO:=o0
noncomputable abbrev o437:PO:=o2
noncomputable def q118:Str:=⟨⟨[114,111,119,115]⟩⟩
noncomputable def o438:PO:=fun P=>Obj.mk (.type l0) none (.seq ⟨[(.str q66 583),(.str q68 584),(.str q50 585),(.str q118 586),(.str q112 587),(.str q113 588),(.str q70 589),(.str q61 590)]⟩ 0) ⟨[]⟩
noncomputable abbrev o440:PO:=o0
noncomputable def o441:PO:=fun P=>Obj.mk .none none (.func { fnOf q59 q59 (L2.zD (tp 40)) (L2.zC (tp 40)) (L2.zA (tp 40)) .none .none .none .none none .none .none with globals:=0,builtins:=0 }) ⟨[]⟩
noncomputable def o442:PO:=fun P=>Obj.mk (.type l1) none (.fields ⟨[(.str q59 580),(.str q59 581),(.str q1 582),(I 138 0),(I 1 0),(I 0 0),(I 0 0),(I 3 0),(.ref 290),(.bool Bool.true),(I 181 0),(.ref 291),.none,(.ref 292),(.ref 293),(.ref 294),(I 591 0),(I 138 0),(.str q1 592)]⟩) ⟨[]⟩
noncomputable def o443:PO:=fun P=>Obj.mk (.type l17) none (.func (fnOf q59 q59 (L2.zD (tp 40)) (L2.zC (tp 40)) (L2.zA (tp 40)) .none .none .none (.str q117 570) none (.ref 295) .none)) ⟨[]⟩
noncomputable abbrev o444:PO:=o0
noncomputable abbrev o445:PO:=o2
noncomputable def o446:PO:=fun P=>Obj.mk .none none (.func { fnOf q80 q80 (L2.zD (tp 41)) (L2.zC (tp 41)) (L2.zA (tp 41)) .none .none .none .none none .none .none with globals:=0,builtins:=0 }) ⟨[]⟩
noncomputable def o447:PO:=fun P=>Obj.mk (.type l1) none (.fields ⟨[(.str q80 594),(.str q80 595),(.str q1 596),(I 149 0),(I 3 0),(I 0 0),(I 0 0),(I 3 0),(.ref 297),(.bool Bool.true),(I 181 0),(.ref 298),.none,.none,.none,(.ref 299),(I 597 0),(I 149 0),(.str q1 598)]⟩) ⟨[]⟩
noncomputable def o448:PO:=fun P=>Obj.mk (.type l17) none (.func (fnOf q80 q80 (L2.zD (tp 41)) (L2.zC (tp 41)) (L2.zA (tp 41)) .none .none .none (.str q117 570) none (.ref 300) .none)) ⟨[]⟩
noncomputable abbrev o449:PO:=o0
noncomputable abbrev o450:PO:=o2
noncomputable def o451:PO:=fun P=>Obj.mk .none none (.func { fnOf q81 q81 (L2.zD (tp 43)) (L2.zC (tp 43)) (L2.zA (tp 43)) .none .none .none .none none .none .none with globals:=0,builtins:=0 }) ⟨[]⟩
noncomputable def o452:PO:=fun P=>Obj.mk (.type l1) none (.fields ⟨[(.str q81 602),(.str q81 603),(.str q1 604),(I 153 0),(I 2 0),(I 0 0),(I 0 0),(I 3 0),(.ref 302),(.bool Bool.true),(I 181 0),(.ref 303),.none,.none,.none,(.ref 304),(I 605 0),(I 153 0),(.str q1 606)]⟩) ⟨[]⟩
noncomputable def q119:Str:=⟨⟨[101,118,101,110,104,117,98,46,116,101,108,108,105,110,103,115]⟩⟩
noncomputable def o453:PO:=fun P=>Obj.mk (.type l17) none (.func (fnOf q81 q81 (L2.zD (tp 43)) (L2.zC (tp 43)) (L2.zA (tp 43)) .none .none .none (.str q119 600) none (.ref 305) .none)) ⟨[]⟩
noncomputable abbrev o455:PO:=o0
noncomputable abbrev o456:PO:=o2
noncomputable def q120:Str:=⟨⟨[102,105,114,115,116]⟩⟩
noncomputable def q121:Str:=⟨⟨[111,116,104,101,114,115]⟩⟩
noncomputable def q122:Str:=⟨⟨[110,117,109,98,101,114]⟩⟩
noncomputable def o457:PO:=fun P=>Obj.mk (.type l0) none (.seq ⟨[(.str q120 611),(.str q121 612),(.str q69 613),(.str q122 614)]⟩ 0) ⟨[]⟩
noncomputable abbrev o461:PO:=o0
noncomputable def o462:PO:=fun P=>Obj.mk .none none (.func { fnOf q82 q82 (L2.zD (tp 44)) (L2.zC (tp 44)) (L2.zA (tp 44)) .none .none .none .none none .none .none with globals:=0,builtins:=0 }) ⟨[]⟩
noncomputable def o463:PO:=fun P=>Obj.mk (.type l1) none (.fields ⟨[(.str q82 608),(.str q82 609),(.str q1 610),(I 164 0),(I 2 0),(I 0 0),(I 0 0),(I 3 0),(.ref 307),(.bool Bool.true),(I 181 0),(.ref 308),.none,(.ref 309),(.ref 310),(.ref 311),(I 615 0),(I 164 0),(.str q1 616)]⟩) ⟨[]⟩
noncomputable def o464:PO:=fun P=>Obj.mk (.type l17) none (.func (fnOf q82 q82 (L2.zD (tp 44)) (L2.zC (tp 44)) (L2.zA (tp 44)) .none .none .none (.str q119 600) none (.ref 312) .none)) ⟨[]⟩
noncomputable abbrev o465:PO:=o0
noncomputable abbrev o466:PO:=o2
noncomputable def o467:PO:=fun P=>Obj.mk (.type l0) none (.seq ⟨[(.str q61 621)]⟩ 0) ⟨[]⟩
noncomputable abbrev o468:PO:=o0
noncomputable def o469:PO:=fun P=>Obj.mk .none none (.func { fnOf q83 q83 (L2.zD (tp 45)) (L2.zC (tp 45)) (L2.zA (tp 45)) .none .none .none .none none .none .none with globals:=0,builtins:=0 }) ⟨[]⟩
noncomputable def o470:PO:=fun P=>Obj.mk (.type l1) none (.fields ⟨[(.str q83 618),(.str q83 619),(.str q1 620),(I 169 0),(I 1 0),(I 0 0),(I 0 0),(I 3 0),(.ref 314),(.bool Bool.true),(I 181 0),(.ref 315),.none,(.ref 316),(.ref 317),(.ref 318),(I 622 0),(I 169 0),(.str q1 623)]⟩) ⟨[]⟩
noncomputable def o471:PO:=fun P=>Obj.mk (.type l17) none (.func (fnOf q83 q83 (L2.zD (tp 45)) (L2.zC (tp 45)) (L2.zA (tp 45)) .none .none .none (.str q119 600) none (.ref 319) .none)) ⟨[]⟩
noncomputable abbrev o472:PO:=o0
noncomputable abbrev o473:PO:=o2
noncomputable def q123:Str:=⟨⟨[120]⟩⟩
noncomputable def o474:PO:=fun P=>Obj.mk (.type l0) none (.seq ⟨[(.str q123 628),(.str q68 629)]⟩ 0) ⟨[]⟩
noncomputable abbrev o476:PO:=o0
noncomputable def o477:PO:=fun P=>Obj.mk .none none (.func { fnOf q84 q84 (L2.zD (tp 46)) (L2.zC (tp 46)) (L2.zA (tp 46)) .none .none .none .none none .none .none with globals:=0,builtins:=0 }) ⟨[]⟩
noncomputable def o478:PO:=fun P=>Obj.mk (.type l1) none (.fields ⟨[(.str q84 625),(.str q84 626),(.str q1 627),(I 171 0),(I 2 0),(I 0 0),(I 0 0),(I 3 0),(.ref 321),(.bool Bool.true),(I 181 0),(.ref 322),.none,(.ref 323),(.ref 324),(.ref 325),(I 630 0),(I 171 0),(.str q1 631)]⟩) ⟨[]⟩
noncomputable def o479:PO:=fun P=>Obj.mk (.type l17) none (.func (fnOf q84 q84 (L2.zD (tp 46)) (L2.zC (tp 46)) (L2.zA (tp 46)) .none .none .none (.str q119 600) none (.ref 326) .none)) ⟨[]⟩
noncomputable abbrev o480:PO:=o0
noncomputable abbrev o481:PO:=o2
noncomputable def q124:Str:=⟨⟨[121]⟩⟩
noncomputable def o482:PO:=fun P=>Obj.mk (.type l0) none (.seq ⟨[(.str q123 636),(.str q124 637),(.str q68 638)]⟩ 0) ⟨[]⟩
noncomputable abbrev o484:PO:=o0
noncomputable def o485:PO:=fun P=>Obj.mk .none none (.func { fnOf q85 q85 (L2.zD (tp 47)) (L2.zC (tp 47)) (L2.zA (tp 47)) .none .none .none .none none .none .none with globals:=0,builtins:=0 }) ⟨[]⟩
noncomputable def o486:PO:=fun P=>Obj.mk (.type l1) none (.fields ⟨[(.str q85 633),(.str q85 634),(.str q1 635),(I 175 0),(I 2 0),(I 0 0),(I 0 0),(I 3 0),(.ref 328),(.bool Bool.true),(I 181 0),(.ref 329),.none,(.ref 330),(.ref 331),(.ref 332),(I 639 0),(I 175 0),(.str q1 640)]⟩) ⟨[]⟩
noncomputable def o487:PO:=fun P=>Obj.mk (.type l17) none (.func (fnOf q85 q85 (L2.zD (tp 47)) (L2.zC (tp 47)) (L2.zA (tp 47)) .none .none .none (.str q119 600) none (.ref 333) .none)) ⟨[]⟩
noncomputable abbrev o488:PO:=o0
noncomputable abbrev o489:PO:=o2
noncomputable def o490:PO:=fun P=>Obj.mk (.type l0) none (.seq ⟨[(.str q123 645),(.str q124 646),(.str q68 647)]⟩ 0) ⟨[]⟩
noncomputable abbrev o491:PO:=o0
noncomputable def o492:PO:=fun P=>Obj.mk .none none (.func { fnOf q86 q86 (L2.zD (tp 48)) (L2.zC (tp 48)) (L2.zA (tp 48)) .none .none .none .none none .none .none with globals:=0,builtins:=0 }) ⟨[]⟩
noncomputable def o493:PO:=fun P=>Obj.mk (.type l1) none (.fields ⟨[(.str q86 642),(.str q86 643),(.str q1 644),(I 180 0),(I 3 0),(I 0 0),(I 0 0),(I 3 0),(.ref 335),(.bool Bool.true),(I 181 0),(.ref 336),.none,(.ref 337),(.ref 338),(.ref 339),(I 648 0),(I 180 0),(.str q1 649)]⟩) ⟨[]⟩
noncomputable def o494:PO:=fun P=>Obj.mk (.type l17) none (.func (fnOf q86 q86 (L2.zD (tp 48)) (L2.zC (tp 48)) (L2.zA (tp 48)) .none .none .none (.str q119 600) none (.ref 340) .none)) ⟨[]⟩
noncomputable abbrev o495:PO:=o0
noncomputable abbrev o496:PO:=o2
noncomputable def o497:PO:=fun P=>Obj.mk (.type l0) none (.seq ⟨[(.str q123 654),(.str q124 655),(.str q68 656)]⟩ 0) ⟨[]⟩
noncomputable abbrev o498:PO:=o0
noncomputable def o499:PO:=fun P=>Obj.mk .none none (.func { fnOf q87 q87 (L2.zD (tp 49)) (L2.zC (tp 49)) (L2.zA (tp 49)) .none .none .none .none none .none .none with globals:=0,builtins:=0 }) ⟨[]⟩
noncomputable def o500:PO:=fun P=>Obj.mk (.type l1) none (.fields ⟨[(.str q87 651),(.str q87 652),(.str q1 653),(I 182 0),(I 2 0),(I 0 0),(I 0 0),(I 3 0),(.ref 342),(.bool Bool.true),(I 181 0),(.ref 343),.none,(.ref 344),(.ref 345),(.ref 346),(I 657 0),(I 182 0),(.str q1 658)]⟩) ⟨[]⟩
noncomputable def o501:PO:=fun P=>Obj.mk (.type l17) none (.func (fnOf q87 q87 (L2.zD (tp 49)) (L2.zC (tp 49)) (L2.zA (tp 49)) .none .none .none (.str q119 600) none (.ref 347) .none)) ⟨[]⟩
noncomputable abbrev o502:PO:=o0
noncomputable abbrev o503:PO:=o2
noncomputable def o504:PO:=fun P=>Obj.mk (.type l0) none (.seq ⟨[(.str q123 663),(.str q124 664),(.str q68 665)]⟩ 0) ⟨[]⟩
noncomputable abbrev o505:PO:=o0
noncomputable def o506:PO:=fun P=>Obj.mk .none none (.func { fnOf q88 q88 (L2.zD (tp 50)) (L2.zC (tp 50)) (L2.zA (tp 50)) .none .none .none .none none .none .none with globals:=0,builtins:=0 }) ⟨[]⟩
noncomputable def o507:PO:=fun P=>Obj.mk (.type l1) none (.fields ⟨[(.str q88 660),(.str q88 661),(.str q1 662),(I 185 0),(I 2 0),(I 0 0),(I 0 0),(I 3 0),(.ref 349),(.bool Bool.true),(I 181 0),(.ref 350),.none,(.ref 351),(.ref 352),(.ref 353),(I 666 0),(I 185 0),(.str q1 667)]⟩) ⟨[]⟩
noncomputable def o508:PO:=fun P=>Obj.mk (.type l17) none (.func (fnOf q88 q88 (L2.zD (tp 50)) (L2.zC (tp 50)) (L2.zA (tp 50)) .none .none .none (.str q119 600) none (.ref 354) .none)) ⟨[]⟩
noncomputable abbrev o509:PO:=o0
noncomputable abbrev o510:PO:=o2
noncomputable def o511:PO:=fun P=>Obj.mk (.type l0) none (.seq ⟨[(.str q123 676),(.str q67 677)]⟩ 0) ⟨[]⟩
noncomputable abbrev o512:PO:=o0
noncomputable def o513:PO:=fun P=>Obj.mk .none none (.func { fnOf q90 q90 (L2.zD (tp 53)) (L2.zC (tp 53)) (L2.zA (tp 53)) .none .none .none .none none .none .none with globals:=0,builtins:=0 }) ⟨[]⟩
noncomputable def o514:PO:=fun P=>Obj.mk (.type l1) none (.fields ⟨[(.str q90 673),(.str q90 674),(.str q1 675),(I 190 0),(I 2 0),(I 0 0),(I 0 0),(I 3 0),(.ref 356),(.bool Bool.true),(I 181 0),(.ref 357),.none,(.ref 358),(.ref 359),(.ref 360),(I 678 0),(I 190 0),(.str q1 679)]⟩) ⟨[]⟩
noncomputable def q125:Str:=⟨⟨[101,118,101,110,104,117,98,46,115,105,100,101,115]⟩⟩
noncomputable def o515:PO:=fun P=>Obj.mk (.type l17) none (.func (fnOf q90 q90 (L2.zD (tp 53)) (L2.zC (tp 53)) (L2.zA (tp 53)) .none .none .none (.str q125 669) none (.ref 361) .none)) ⟨[]⟩
noncomputable abbrev o517:PO:=o0
noncomputable abbrev o518:PO:=o2
noncomputable def o519:PO:=fun P=>Obj.mk (.type l0) none (.seq ⟨[(.str q123 684)]⟩ 0) ⟨[]⟩
noncomputable abbrev o520:PO:=o0
noncomputable def o521:PO:=fun P=>Obj.mk .none none (.func { fnOf q91 q91 (L2.zD (tp 54)) (L2.zC (tp 54)) (L2.zA (tp 54)) .none .none .none .none none .none .none with globals:=0,builtins:=0 }) ⟨[]⟩
noncomputable def o522:PO:=fun P=>Obj.mk (.type l1) none (.fields ⟨[(.str q91 681),(.str q91 682),(.str q1 683),(I 192 0),(I 1 0),(I 0 0),(I 0 0),(I 3 0),(.ref 363),(.bool Bool.true),(I 181 0),(.ref 364),.none,(.ref 365),(.ref 366),(.ref 367),(I 685 0),(I 192 0),(.str q1 686)]⟩) ⟨[]⟩
noncomputable def o523:PO:=fun P=>Obj.mk (.type l17) none (.func (fnOf q91 q91 (L2.zD (tp 54)) (L2.zC (tp 54)) (L2.zA (tp 54)) .none .none .none (.str q125 669) none (.ref 368) .none)) ⟨[]⟩
noncomputable abbrev o524:PO:=o0
noncomputable abbrev o525:PO:=o2
noncomputable def o526:PO:=fun P=>Obj.mk (.type l0) none (.seq ⟨[(.str q123 691),(.str q111 692),(.str q67 693)]⟩ 0) ⟨[]⟩
noncomputable abbrev o527:PO:=o0
noncomputable def o528:PO:=fun P=>Obj.mk .none none (.func { fnOf q92 q92 (L2.zD (tp 55)) (L2.zC (tp 55)) (L2.zA (tp 55)) .none .none .none .none none .none .none with globals:=0,builtins:=0 }) ⟨[]⟩
noncomputable def o529:PO:=fun P=>Obj.mk (.type l1) none (.fields ⟨[(.str q92 688),(.str q92 689),(.str q1 690),(I 195 0),(I 1 0),(I 0 0),(I 0 0),(I 3 0),(.ref 370),(.bool Bool.true),(I 181 0),(.ref 371),.none,(.ref 372),(.ref 373),(.ref 374),(I 694 0),(I 195 0),(.str q1 695)]⟩) ⟨[]⟩
noncomputable def o530:PO:=fun P=>Obj.mk (.type l17) none (.func (fnOf q92 q92 (L2.zD (tp 55)) (L2.zC (tp 55)) (L2.zA (tp 55)) .none .none .none (.str q125 669) none (.ref 375) .none)) ⟨[]⟩
noncomputable abbrev o531:PO:=o0
noncomputable abbrev o532:PO:=o2
noncomputable def o533:PO:=fun P=>Obj.mk (.type l0) none (.seq ⟨[(.str q123 700),(.str q69 701),(.str q47 702)]⟩ 0) ⟨[]⟩
noncomputable abbrev o534:PO:=o0
noncomputable def o535:PO:=fun P=>Obj.mk .none none (.func { fnOf q93 q93 (L2.zD (tp 56)) (L2.zC (tp 56)) (L2.zA (tp 56)) .none .none .none .none none .none .none with globals:=0,builtins:=0 }) ⟨[]⟩
noncomputable def o536:PO:=fun P=>Obj.mk (.type l1) none (.fields ⟨[(.str q93 697),(.str q93 698),(.str q1 699),(I 201 0),(I 1 0),(I 0 0),(I 0 0),(I 3 0),(.ref 377),(.bool Bool.true),(I 181 0),(.ref 378),.none,(.ref 379),(.ref 380),(.ref 381),(I 703 0),(I 201 0),(.str q1 704)]⟩) ⟨[]⟩
noncomputable def o537:PO:=fun P=>Obj.mk (.type l17) none (.func (fnOf q93 q93 (L2.zD (tp 56)) (L2.zC (tp 56)) (L2.zA (tp 56)) .none .none .none (.str q125 669) none (.ref 382) .none)) ⟨[]⟩
noncomputable abbrev o538:PO:=o0
noncomputable abbrev o539:PO:=o2
noncomputable def o540:PO:=fun P=>Obj.mk .none none (.func { fnOf q94 q94 (L2.zD (tp 57)) (L2.zC (tp 57)) (L2.zA (tp 57)) .none .none .none .none none .none .none with globals:=0,builtins:=0 }) ⟨[]⟩
noncomputable def o541:PO:=fun P=>Obj.mk (.type l1) none (.fields ⟨[(.str q94 706),(.str q94 707),(.str q1 708),(I 206 0),(I 1 0),(I 0 0),(I 0 0),(I 3 0),(.ref 384),(.bool Bool.true),(I 181 0),(.ref 385),.none,.none,.none,(.ref 386),(I 709 0),(I 206 0),(.str q1 710)]⟩) ⟨[]⟩
noncomputable def o542:PO:=fun P=>Obj.mk (.type l17) none (.func (fnOf q94 q94 (L2.zD (tp 57)) (L2.zC (tp 57)) (L2.zA (tp 57)) .none .none .none (.str q125 669) none (.ref 387) .none)) ⟨[]⟩
noncomputable abbrev o543:PO:=o0
noncomputable abbrev o544:PO:=o2
noncomputable def q126:Str:=⟨⟨[103,114,111,117,112]⟩⟩
noncomputable def q127:Str:=⟨⟨[112,111,119,101,114,115]⟩⟩
noncomputable def q128:Str:=⟨⟨[112,111,119,101,114]⟩⟩
noncomputable def o545:PO:=fun P=>Obj.mk (.type l0) none (.seq ⟨[(.str q67 715),(.str q126 716),(.str q68 717),(.str q127 718),(.str q128 719)]⟩ 0) ⟨[]⟩
noncomputable abbrev o549:PO:=o0
noncomputable def o550:PO:=fun P=>Obj.mk .none none (.func { fnOf q95 q95 (L2.zD (tp 58)) (L2.zC (tp 58)) (L2.zA (tp 58)) .none .none .none .none none .none .none with globals:=0,builtins:=0 }) ⟨[]⟩
noncomputable def o551:PO:=fun P=>Obj.mk (.type l1) none (.fields ⟨[(.str q95 712),(.str q95 713),(.str q1 714),(I 216 0),(I 3 0),(I 0 0),(I 0 0),(I 3 0),(.ref 389),(.bool Bool.true),(I 181 0),(.ref 390),.none,(.ref 391),(.ref 392),(.ref 393),(I 720 0),(I 216 0),(.str q1 721)]⟩) ⟨[]⟩
noncomputable def o552:PO:=fun P=>Obj.mk (.type l17) none (.func (fnOf q95 q95 (L2.zD (tp 58)) (L2.zC (tp 58)) (L2.zA (tp 58)) .none .none .none (.str q125 669) none (.ref 394) .none)) ⟨[]⟩
noncomputable abbrev o553:PO:=o0
noncomputable abbrev o554:PO:=o2
noncomputable def q129:Str:=⟨⟨[104,97,108,102]⟩⟩
noncomputable def o555:PO:=fun P=>Obj.mk (.type l0) none (.seq ⟨[(.str q123 726),(.str q127 727),(.str q61 728),(.str q129 729),(.str q69 730)]⟩ 0) ⟨[]⟩
noncomputable abbrev o557:PO:=o0
noncomputable def o558:PO:=fun P=>Obj.mk .none none (.func { fnOf q96 q96 (L2.zD (tp 59)) (L2.zC (tp 59)) (L2.zA (tp 59)) .none .none .none .none none .none .none with globals:=0,builtins:=0 }) ⟨[]⟩
noncomputable def o559:PO:=fun P=>Obj.mk (.type l1) none (.fields ⟨[(.str q96 723),(.str q96 724),(.str q1 725),(I 223 0),(I 2 0),(I 0 0),(I 0 0),(I 3 0),(.ref 396),(.bool Bool.true),(I 181 0),(.ref 397),.none,(.ref 398),(.ref 399),(.ref 400),(I 731 0),(I 223 0),(.str q1 732)]⟩) ⟨[]⟩
noncomputable def o560:PO:=fun P=>Obj.mk (.type l17) none (.func (fnOf q96 q96 (L2.zD (tp 59)) (L2.zC (tp 59)) (L2.zA (tp 59)) .none .none .none (.str q125 669) none (.ref 401) .none)) ⟨[]⟩
noncomputable abbrev o561:PO:=o0
noncomputable abbrev o562:PO:=o2
noncomputable def o563:PO:=fun P=>Obj.mk .none none (.func { fnOf q97 q97 (L2.zD (tp 60)) (L2.zC (tp 60)) (L2.zA (tp 60)) .none .none .none .none none .none .none with globals:=0,builtins:=0 }) ⟨[]⟩
noncomputable def o564:PO:=fun P=>Obj.mk (.type l1) none (.fields ⟨[(.str q97 734),(.str q97 735),(.str q1 736),(I 232 0),(I 3 0),(I 0 0),(I 0 0),(I 3 0),(.ref 403),(.bool Bool.true),(I 181 0),(.ref 404),.none,.none,.none,(.ref 405),(I 737 0),(I 232 0),(.str q1 738)]⟩) ⟨[]⟩
noncomputable def o565:PO:=fun P=>Obj.mk (.type l17) none (.func (fnOf q97 q97 (L2.zD (tp 60)) (L2.zC (tp 60)) (L2.zA (tp 60)) .none .none .none (.str q125 669) none (.ref 406) .none)) ⟨[]⟩
noncomputable abbrev o566:PO:=o0
noncomputable abbrev o567:PO:=o2
noncomputable def q130:Str:=⟨⟨[115,99,114,105,112,116]⟩⟩
noncomputable def q131:Str:=⟨⟨[107]⟩⟩
noncomputable def o568:PO:=fun P=>Obj.mk (.type l0) none (.seq ⟨[(.str q130 745),(.str q131 746)]⟩ 0) ⟨[]⟩
noncomputable abbrev o571:PO:=o0
noncomputable def o572:PO:=fun P=>Obj.mk .none none (.func { fnOf q98 q98 (L2.zD (tp 62)) (L2.zC (tp 62)) (L2.zA (tp 62)) .none .none .none .none none .none .none with globals:=0,builtins:=0 }) ⟨[]⟩
noncomputable def o573:PO:=fun P=>Obj.mk (.type l1) none (.fields ⟨[(.str q98 742),(.str q98 743),(.str q1 744),(I 238 0),(I 2 0),(I 0 0),(I 0 0),(I 3 0),(.ref 408),(.bool Bool.true),(I 181 0),(.ref 409),.none,(.ref 410),(.ref 411),(.ref 412),(I 747 0),(I 238 0),(.str q1 748)]⟩) ⟨[]⟩
noncomputable def o574:PO:=fun P=>Obj.mk (.type l17) none (.func (fnOf q98 q98 (L2.zD (tp 62)) (L2.zC (tp 62)) (L2.zA (tp 62)) .none .none .none (.str q72 740) none (.ref 413) .none)) ⟨[]⟩
noncomputable abbrev o575:PO:=o0
noncomputable abbrev o576:PO:=o2
noncomputable def o577:PO:=fun P=>Obj.mk (.type l0) none (.seq ⟨[(.str q111 753)]⟩ 0) ⟨[]⟩
noncomputable abbrev o578:PO:=o0
noncomputable def o579:PO:=fun P=>Obj.mk .none none (.func { fnOf q99 q99 (L2.zD (tp 63)) (L2.zC (tp 63)) (L2.zA (tp 63)) .none .none .none .none none .none .none with globals:=0,builtins:=0 }) ⟨[]⟩
noncomputable def o580:PO:=fun P=>Obj.mk (.type l1) none (.fields ⟨[(.str q99 750),(.str q99 751),(.str q1 752),(I 242 0),(I 1 0),(I 0 0),(I 0 0),(I 3 0),(.ref 415),(.bool Bool.true),(I 181 0),(.ref 416),.none,(.ref 417),(.ref 418),(.ref 419),(I 754 0),(I 242 0),(.str q1 755)]⟩) ⟨[]⟩
noncomputable def o581:PO:=fun P=>Obj.mk (.type l17) none (.func (fnOf q99 q99 (L2.zD (tp 63)) (L2.zC (tp 63)) (L2.zA (tp 63)) .none .none .none (.str q72 740) none (.ref 420) .none)) ⟨[]⟩
noncomputable abbrev o582:PO:=o0
noncomputable abbrev o583:PO:=o2
noncomputable def o584:PO:=fun P=>Obj.mk .none none (.func { fnOf q100 q100 (L2.zD (tp 64)) (L2.zC (tp 64)) (L2.zA (tp 64)) .none .none .none .none none .none .none with globals:=0,builtins:=0 }) ⟨[]⟩
noncomputable def o585:PO:=fun P=>Obj.mk (.type l1) none (.fields ⟨[(.str q100 757),(.str q100 758),(.str q1 759),(I 244 0),(I 1 0),(I 0 0),(I 0 0),(I 3 0),(.ref 422),(.bool Bool.true),(I 181 0),(.ref 423),.none,.none,.none,(.ref 424),(I 760 0),(I 244 0),(.str q1 761)]⟩) ⟨[]⟩
noncomputable def o586:PO:=fun P=>Obj.mk (.type l17) none (.func (fnOf q100 q100 (L2.zD (tp 64)) (L2.zC (tp 64)) (L2.zA (tp 64)) .none .none .none (.str q72 740) none (.ref 425) .none)) ⟨[]⟩
noncomputable abbrev o587:PO:=o0
noncomputable abbrev o588:PO:=o2
noncomputable def o589:PO:=fun P=>Obj.mk (.type l0) none (.seq ⟨[(.str q46 766),(.str q47 767)]⟩ 0) ⟨[]⟩
noncomputable abbrev o590:PO:=o0
noncomputable def o591:PO:=fun P=>Obj.mk .none none (.func { fnOf q101 q101 (L2.zD (tp 65)) (L2.zC (tp 65)) (L2.zA (tp 65)) .none .none .none .none none .none .none with globals:=0,builtins:=0 }) ⟨[]⟩
noncomputable def o592:PO:=fun P=>Obj.mk (.type l1) none (.fields ⟨[(.str q101 763),(.str q101 764),(.str q1 765),(I 250 0),(I 2 0),(I 0 0),(I 0 0),(I 3 0),(.ref 427),(.bool Bool.true),(I 181 0),(.ref 428),.none,(.ref 429),(.ref 430),(.ref 431),(I 768 0),(I 250 0),(.str q1 769)]⟩) ⟨[]⟩
noncomputable def o593:PO:=fun P=>Obj.mk (.type l17) none (.func (fnOf q101 q101 (L2.zD (tp 65)) (L2.zC (tp 65)) (L2.zA (tp 65)) .none .none .none (.str q72 740) none (.ref 432) .none)) ⟨[]⟩
noncomputable abbrev o594:PO:=o0
noncomputable abbrev o595:PO:=o2
noncomputable def q132:Str:=⟨⟨[99,101,108,108,115]⟩⟩
noncomputable def q133:Str:=⟨⟨[102,97,114]⟩⟩
noncomputable def q134:Str:=⟨⟨[109,111,115,116]⟩⟩
noncomputable def q135:Str:=⟨⟨[97,116]⟩⟩
noncomputable def o596:PO:=fun P=>Obj.mk (.type l0) none (.seq ⟨[(.str q68 774),(.str q132 775),(.str q133 776),(.str q134 777),(.str q66 778),(.str q131 779),(.str q135 780)]⟩ 0) ⟨[]⟩
noncomputable abbrev o601:PO:=o0
noncomputable def o602:PO:=fun P=>Obj.mk .none none (.func { fnOf q102 q102 (L2.zD (tp 66)) (L2.zC (tp 66)) (L2.zA (tp 66)) .none .none .none .none none .none .none with globals:=0,builtins:=0 }) ⟨[]⟩
noncomputable def o603:PO:=fun P=>Obj.mk (.type l1) none (.fields ⟨[(.str q102 771),(.str q102 772),(.str q1 773),(I 256 0),(I 4 0),(I 0 0),(I 0 0),(I 3 0),(.ref 434),(.bool Bool.true),(I 181 0),(.ref 435),.none,(.ref 436),(.ref 437),(.ref 438),(I 781 0),(I 256 0),(.str q1 782)]⟩) ⟨[]⟩
noncomputable def o604:PO:=fun P=>Obj.mk (.type l17) none (.func (fnOf q102 q102 (L2.zD (tp 66)) (L2.zC (tp 66)) (L2.zA (tp 66)) .none .none .none (.str q72 740) none (.ref 439) .none)) ⟨[]⟩
noncomputable abbrev o605:PO:=o0
noncomputable abbrev o606:PO:=o2
noncomputable def q136:Str:=⟨⟨[119,101,105,103,104,116,115]⟩⟩
noncomputable def o607:PO:=fun P=>Obj.mk (.type l0) none (.seq ⟨[(.str q136 787),(.str q67 788),(.str q68 789),(.str q111 790),(.str q131 791)]⟩ 0) ⟨[]⟩
noncomputable abbrev o609:PO:=o0
noncomputable def o610:PO:=fun P=>Obj.mk .none none (.func { fnOf q103 q103 (L2.zD (tp 67)) (L2.zC (tp 67)) (L2.zA (tp 67)) .none .none .none .none none .none .none with globals:=0,builtins:=0 }) ⟨[]⟩
noncomputable def o611:PO:=fun P=>Obj.mk (.type l1) none (.fields ⟨[(.str q103 784),(.str q103 785),(.str q1 786),(I 262 0),(I 2 0),(I 0 0),(I 0 0),(I 3 0),(.ref 441),(.bool Bool.true),(I 181 0),(.ref 442),.none,(.ref 443),(.ref 444),(.ref 445),(I 792 0),(I 262 0),(.str q1 793)]⟩) ⟨[]⟩
noncomputable def o612:PO:=fun P=>Obj.mk (.type l17) none (.func (fnOf q103 q103 (L2.zD (tp 67)) (L2.zC (tp 67)) (L2.zA (tp 67)) .none .none .none (.str q72 740) none (.ref 446) .none)) ⟨[]⟩
noncomputable abbrev o613:PO:=o0
noncomputable abbrev o614:PO:=o2
noncomputable def o615:PO:=fun P=>Obj.mk .none none (.func { fnOf q104 q104 (L2.zD (tp 68)) (L2.zC (tp 68)) (L2.zA (tp 68)) .none .none .none .none none .none .none with globals:=0,builtins:=0 }) ⟨[]⟩
noncomputable def o616:PO:=fun P=>Obj.mk (.type l1) none (.fields ⟨[(.str q104 795),(.str q104 796),(.str q1 797),(I 268 0),(I 2 0),(I 0 0),(I 0 0),(I 3 0),(.ref 448),(.bool Bool.true),(I 181 0),(.ref 449),.none,.none,.none,(.ref 450),(I 798 0),(I 268 0),(.str q1 799)]⟩) ⟨[]⟩
noncomputable def o617:PO:=fun P=>Obj.mk (.type l17) none (.func (fnOf q104 q104 (L2.zD (tp 68)) (L2.zC (tp 68)) (L2.zA (tp 68)) .none .none .none (.str q72 740) none (.ref 451) .none)) ⟨[]⟩
noncomputable abbrev o618:PO:=o0
noncomputable abbrev o619:PO:=o2
noncomputable def q137:Str:=⟨⟨[99,101,108,108]⟩⟩
noncomputable def o620:PO:=fun P=>Obj.mk (.type l0) none (.seq ⟨[(.str q137 804),(.str q134 805),(.str q111 806)]⟩ 0) ⟨[]⟩
noncomputable abbrev o622:PO:=o0
noncomputable def o623:PO:=fun P=>Obj.mk .none none (.func { fnOf q105 q105 (L2.zD (tp 69)) (L2.zC (tp 69)) (L2.zA (tp 69)) .none .none .none .none none .none .none with globals:=0,builtins:=0 }) ⟨[]⟩
noncomputable def o624:PO:=fun P=>Obj.mk (.type l1) none (.fields ⟨[(.str q105 801),(.str q105 802),(.str q1 803),(I 278 0),(I 2 0),(I 0 0),(I 0 0),(I 3 0),(.ref 453),(.bool Bool.true),(I 181 0),(.ref 454),.none,(.ref 455),(.ref 456),(.ref 457),(I 807 0),(I 278 0),(.str q1 808)]⟩) ⟨[]⟩
noncomputable def o625:PO:=fun P=>Obj.mk (.type l17) none (.func (fnOf q105 q105 (L2.zD (tp 69)) (L2.zC (tp 69)) (L2.zA (tp 69)) .none .none .none (.str q72 740) none (.ref 458) .none)) ⟨[]⟩
noncomputable abbrev o626:PO:=o0
noncomputable abbrev o627:PO:=o2
noncomputable def q138:Str:=⟨⟨[119,104,105,99,104]⟩⟩
noncomputable def o628:PO:=fun P=>Obj.mk (.type l0) none (.seq ⟨[(.str q138 813),(.str q123 814)]⟩ 0) ⟨[]⟩
noncomputable abbrev o630:PO:=o0
noncomputable def o631:PO:=fun P=>Obj.mk .none none (.func { fnOf q106 q106 (L2.zD (tp 70)) (L2.zC (tp 70)) (L2.zA (tp 70)) .none .none .none .none none .none .none with globals:=0,builtins:=0 }) ⟨[]⟩
noncomputable def o632:PO:=fun P=>Obj.mk (.type l1) none (.fields ⟨[(.str q106 810),(.str q106 811),(.str q1 812),(I 283 0),(I 2 0),(I 0 0),(I 0 0),(I 3 0),(.ref 460),(.bool Bool.true),(I 181 0),(.ref 461),.none,(.ref 462),(.ref 463),(.ref 464),(I 815 0),(I 283 0),(.str q1 816)]⟩) ⟨[]⟩
noncomputable def o633:PO:=fun P=>Obj.mk (.type l17) none (.func (fnOf q106 q106 (L2.zD (tp 70)) (L2.zC (tp 70)) (L2.zA (tp 70)) .none .none .none (.str q72 740) none (.ref 465) .none)) ⟨[]⟩
noncomputable abbrev o634:PO:=o0
noncomputable abbrev o635:PO:=o2
noncomputable def q139:Str:=⟨⟨[115,117,114,101]⟩⟩
noncomputable def q140:Str:=⟨⟨[101]⟩⟩
noncomputable def o636:PO:=fun P=>Obj.mk (.type l0) none (.seq ⟨[(.str q138 821),(.str q123 822),(.str q139 823),(.str q47 824),(.str q140 825)]⟩ 0) ⟨[]⟩
noncomputable abbrev o639:PO:=o0
noncomputable def o640:PO:=fun P=>Obj.mk .none none (.func { fnOf q107 q107 (L2.zD (tp 71)) (L2.zC (tp 71)) (L2.zA (tp 71)) .none .none .none .none none .none .none with globals:=0,builtins:=0 }) ⟨[]⟩
noncomputable def o641:PO:=fun P=>Obj.mk (.type l1) none (.fields ⟨[(.str q107 818),(.str q107 819),(.str q1 820),(I 290 0),(I 2 0),(I 0 0),(I 0 0),(I 3 0),(.ref 467),(.bool Bool.true),(I 181 0),(.ref 468),.none,(.ref 469),(.ref 470),(.ref 471),(I 826 0),(I 290 0),(.str q1 827)]⟩) ⟨[]⟩
noncomputable def o642:PO:=fun P=>Obj.mk (.type l17) none (.func (fnOf q107 q107 (L2.zD (tp 71)) (L2.zC (tp 71)) (L2.zA (tp 71)) .none .none .none (.str q72 740) none (.ref 472) .none)) ⟨[]⟩
noncomputable abbrev o643:PO:=o0
noncomputable abbrev o644:PO:=o2
noncomputable def o645:PO:=fun P=>Obj.mk (.type l0) none (.seq ⟨[(.str q138 832),(.str q123 833),(.str q139 834),(.str q140 835)]⟩ 0) ⟨[]⟩
noncomputable abbrev o646:PO:=o0
noncomputable def o647:PO:=fun P=>Obj.mk .none none (.func { fnOf q108 q108 (L2.zD (tp 72)) (L2.zC (tp 72)) (L2.zA (tp 72)) .none .none .none .none none .none .none with globals:=0,builtins:=0 }) ⟨[]⟩
noncomputable def o648:PO:=fun P=>Obj.mk (.type l1) none (.fields ⟨[(.str q108 829),(.str q108 830),(.str q1 831),(I 300 0),(I 2 0),(I 0 0),(I 0 0),(I 3 0),(.ref 474),(.bool Bool.true),(I 181 0),(.ref 475),.none,(.ref 476),(.ref 477),(.ref 478),(I 836 0),(I 300 0),(.str q1 837)]⟩) ⟨[]⟩
noncomputable def o649:PO:=fun P=>Obj.mk (.type l17) none (.func (fnOf q108 q108 (L2.zD (tp 72)) (L2.zC (tp 72)) (L2.zA (tp 72)) .none .none .none (.str q72 740) none (.ref 479) .none)) ⟨[]⟩
noncomputable abbrev o650:PO:=o0
noncomputable abbrev o651:PO:=o2
noncomputable def o652:PO:=fun P=>Obj.mk (.type l0) none (.seq ⟨[(.str q137 842)]⟩ 0) ⟨[]⟩
noncomputable abbrev o653:PO:=o0
noncomputable def o654:PO:=fun P=>Obj.mk .none none (.func { fnOf q109 q109 (L2.zD (tp 73)) (L2.zC (tp 73)) (L2.zA (tp 73)) .none .none .none .none none .none .none with globals:=0,builtins:=0 }) ⟨[]⟩
noncomputable def o655:PO:=fun P=>Obj.mk (.type l1) none (.fields ⟨[(.str q109 839),(.str q109 840),(.str q1 841),(I 307 0),(I 1 0),(I 0 0),(I 0 0),(I 3 0),(.ref 481),(.bool Bool.true),(I 181 0),(.ref 482),.none,(.ref 483),(.ref 484),(.ref 485),(I 843 0),(I 307 0),(.str q1 844)]⟩) ⟨[]⟩
noncomputable def o656:PO:=fun P=>Obj.mk (.type l17) none (.func (fnOf q109 q109 (L2.zD (tp 73)) (L2.zC (tp 73)) (L2.zA (tp 73)) .none .none .none (.str q72 740) none (.ref 486) .none)) ⟨[]⟩
noncomputable abbrev o657:PO:=o0
noncomputable abbrev o658:PO:=o2
noncomputable def o659:PO:=fun P=>Obj.mk .none none (.func { fnOf q110 q110 (L2.zD (tp 74)) (L2.zC (tp 74)) (L2.zA (tp 74)) .none .none .none .none none .none .none with globals:=0,builtins:=0 }) ⟨[]⟩
noncomputable def o660:PO:=fun P=>Obj.mk (.type l1) none (.fields ⟨[(.str q110 846),(.str q110 847),(.str q1 848),(I 313 0),(I 1 0),(I 0 0),(I 0 0),(I 3 0),(.ref 488),(.bool Bool.true),(I 181 0),(.ref 489),.none,.none,.none,(.ref 490),(I 849 0),(I 313 0),(.str q1 850)]⟩) ⟨[]⟩
noncomputable def o661:PO:=fun P=>Obj.mk (.type l17) none (.func (fnOf q110 q110 (L2.zD (tp 74)) (L2.zC (tp 74)) (L2.zA (tp 74)) .none .none .none (.str q72 740) none (.ref 491) .none)) ⟨[]⟩
noncomputable def T1:PySem.Params→PySem.W.BT:=fun P=>(.node (boot_o_0 P) (.node (boot_o_1 P) (.node (o341 P) (.node (boot_o_7 P) (.node (o65 P) (.node (o99 P) (.node (o131 P) (.node (o195 P) (.node (o397 P) .nil .nil) (.node (o537 P) .nil .nil)) (.node (o273 P) (.node (o470 P) .nil .nil) (.node (o612 P) .nil .nil))) (.node (o163 P) (.node (o227 P) (.node (o432 P) .nil .nil) (.node (o575 P) .nil .nil)) (.node (o318 P) (.node (o504 P) .nil .nil) (.node (o648 P) .nil .nil)))) (.node (o115 P) (.node (o147 P) (.node (o211 P) (.node (o414 P) .nil .nil) (.node (o557 P) .nil .nil)) (.node (o296 P) (.node (o488 P) .nil .nil) (.node (o630 P) .nil .nil))) (.node (o179 P) (.node (o250 P) (.node (o450 P) .nil .nil) (.node (o591 P) .nil .nil)) (.node (o334 P) (.node (o521 P) .nil .nil) .nil)))) (.node (o82 P) (.node (o107 P) (.node (o139 P) (.node (o203 P) (.node (o405 P) .nil .nil) (.node (o545 P) .nil .nil)) (.node (o287 P) (.node (o479 P) .nil .nil) (.node (o620 P) .nil .nil))) (.node (o171 P) (.node (o242 P) (.node (o442 P) .nil .nil) (.node (o583 P) .nil .nil)) (.node (o326 P) (.node (o512 P) .nil .nil) (.node (o656 P) .nil .nil)))) (.node (o123 P) (.node (o155 P) (.node (o219 P) (.node (o424 P) .nil .nil) (.node (o565 P) .nil .nil)) (.node (o304 P) (.node (o496 P) .nil .nil) (.node (o640 P) .nil .nil))) (.node (o187 P) (.node (o262 P) (.node (o462 P) .nil .nil) (.node (o603 P) .nil .nil)) (.node (o389 P) (.node (o529 P) .nil .nil) .nil))))) (.node (o0 P) (.node (o78 P) (.node (o103 P) (.node (o135 P) (.node (o199 P) (.node (o401 P) .nil .nil) (.node (o541 P) .nil .nil)) (.node (o277 P) (.node (o474 P) .nil .nil) (.node (o616 P) .nil .nil))) (.node (o167 P) (.node (o236 P) (.node (o437 P) .nil .nil) (.node (o579 P) .nil .nil)) (.node (o322 P) (.node (o508 P) .nil .nil) (.node (o652 P) .nil .nil)))) (.node (o119 P) (.node (o151 P) (.node (o215 P) (.node (o419 P) .nil .nil) (.node (o561 P) .nil .nil)) (.node (o300 P) (.node (o492 P) .nil .nil) (.node (o634 P) .nil .nil))) (.node (o183 P) (.node (o258 P) (.node (o455 P) .nil .nil) (.node (o595 P) .nil .nil)) (.node (o382 P) (.node (o525 P) .nil .nil) .nil)))) (.node (o94 P) (.node (o111 P) (.node (o143 P) (.node (o207 P) (.node (o410 P) .nil .nil) (.node (o552 P) .nil .nil)) (.node (o291 P) (.node (o484 P) .nil .nil) (.node (o625 P) .nil .nil))) (.node (o175 P) (.node (o246 P) (.node (o446 P) .nil .nil) (.node (o587 P) .nil .nil)) (.node (o330 P) (.node (o517 P) .nil .nil) (.node (o660 P) .nil .nil)))) (.node (o127 P) (.node (o159 P) (.node (o223 P) (.node (o428 P) .nil .nil) (.node (o571 P) .nil .nil)) (.node (o308 P) (.node (o500 P) .nil .nil) (.node (o644 P) .nil .nil))) (.node (o191 P) (.node (o267 P) (.node (o466 P) .nil .nil) (.node (o607 P) .nil .nil)) (.node (o393 P) (.node (o533 P) .nil .nil) .nil)))))) (.node (boot_o_5 P) (.node (boot_o_9 P) (.node (o71 P) (.node (o101 P) (.node (o133 P) (.node (o197 P) (.node (o399 P) .nil .nil) (.node (o539 P) .nil .nil)) (.node (o275 P) (.node (o472 P) .nil .nil) (.node (o614 P) .nil .nil))) (.node (o165 P) (.node (o229 P) (.node (o434 P) .nil .nil) (.node (o577 P) .nil .nil)) (.node (o320 P) (.node (o506 P) .nil .nil) (.node (o650 P) .nil .nil)))) (.node (o117 P) (.node (o149 P) (.node (o213 P) (.node (o417 P) .nil .nil) (.node (o559 P) .nil .nil)) (.node (o298 P) (.node (o490 P) .nil .nil) (.node (o632 P) .nil .nil))) (.node (o181 P) (.node (o256 P) (.node (o452 P) .nil .nil) (.node (o593 P) .nil .nil)) (.node (o336 P) (.node (o523 P) .nil .nil) .nil)))) (.node (o89 P) (.node (o109 P) (.node (o141 P) (.node (o205 P) (.node (o408 P) .nil .nil) (.node (o550 P) .nil .nil)) (.node (o289 P) (.node (o481 P) .nil .nil) (.node (o623 P) .nil .nil))) (.node (o173 P) (.node (o244 P) (.node (o444 P) .nil .nil) (.node (o585 P) .nil .nil)) (.node (o328 P) (.node (o514 P) .nil .nil) (.node (o658 P) .nil .nil)))) (.node (o125 P) (.node (o157 P) (.node (o221 P) (.node (o426 P) .nil .nil) (.node (o567 P) .nil .nil)) (.node (o306 P) (.node (o498 P) .nil .nil) (.node (o642 P) .nil .nil))) (.node (o189 P) (.node (o265 P) (.node (o464 P) .nil .nil) (.node (o605 P) .nil .nil)) (.node (o391 P) (.node (o531 P) .nil .nil) .nil))))) (.node (o3 P) (.node (o80 P) (.node (o105 P) (.node (o137 P) (.node (o201 P) (.node (o403 P) .nil .nil) (.node (o543 P) .nil .nil)) (.node (o279 P) (.node (o477 P) .nil .nil) (.node (o618 P) .nil .nil))) (.node (o169 P) (.node (o238 P) (.node (o440 P) .nil .nil) (.node (o581 P) .nil .nil)) (.node (o324 P) (.node (o510 P) .nil .nil) (.node (o654 P) .nil .nil)))) (.node (o121 P) (.node (o153 P) (.node (o217 P) (.node (o422 P) .nil .nil) (.node (o563 P) .nil .nil)) (.node (o302 P) (.node (o494 P) .nil .nil) (.node (o636 P) .nil .nil))) (.node (o185 P) (.node (o260 P) (.node (o457 P) .nil .nil) (.node (o601 P) .nil .nil)) (.node (o384 P) (.node (o527 P) .nil .nil) .nil)))) (.node (o97 P) (.node (o113 P) (.node (o145 P) (.node (o209 P) (.node (o412 P) .nil .nil) (.node (o554 P) .nil .nil)) (.node (o293 P) (.node (o486 P) .nil .nil) (.node (o627 P) .nil .nil))) (.node (o177 P) (.node (o248 P) (.node (o448 P) .nil .nil) (.node (o589 P) .nil .nil)) (.node (o332 P) (.node (o519 P) .nil .nil) .nil))) (.node (o129 P) (.node (o161 P) (.node (o225 P) (.node (o430 P) .nil .nil) (.node (o573 P) .nil .nil)) (.node (o310 P) (.node (o502 P) .nil .nil) (.node (o646 P) .nil .nil))) (.node (o193 P) (.node (o269 P) (.node (o468 P) .nil .nil) (.node (o610 P) .nil .nil)) (.node (o395 P) (.node (o535 P) .nil .nil) .nil))))))) (.node (boot_o_2 P) (.node (boot_o_4 P) (.node (boot_o_8 P) (.node (o67 P) (.node (o100 P) (.node (o132 P) (.node (o196 P) (.node (o398 P) .nil .nil) (.node (o538 P) .nil .nil)) (.node (o274 P) (.node (o471 P) .nil .nil) (.node (o613 P) .nil .nil))) (.node (o164 P) (.node (o228 P) (.node (o433 P) .nil .nil) (.node (o576 P) .nil .nil)) (.node (o319 P) (.node (o505 P) .nil .nil) (.node (o649 P) .nil .nil)))) (.node (o116 P) (.node (o148 P) (.node (o212 P) (.node (o416 P) .nil .nil) (.node (o558 P) .nil .nil)) (.node (o297 P) (.node (o489 P) .nil .nil) (.node (o631 P) .nil .nil))) (.node (o180 P) (.node (o251 P) (.node (o451 P) .nil .nil) (.node (o592 P) .nil .nil)) (.node (o335 P) (.node (o522 P) .nil .nil) .nil)))) (.node (o84 P) (.node (o108 P) (.node (o140 P) (.node (o204 P) (.node (o406 P) .nil .nil) (.node (o549 P) .nil .nil)) (.node (o288 P) (.node (o480 P) .nil .nil) (.node (o622 P) .nil .nil))) (.node (o172 P) (.node (o243 P) (.node (o443 P) .nil .nil) (.node (o584 P) .nil .nil)) (.node (o327 P) (.node (o513 P) .nil .nil) (.node (o657 P) .nil .nil)))) (.node (o124 P) (.node (o156 P) (.node (o220 P) (.node (o425 P) .nil .nil) (.node (o566 P) .nil .nil)) (.node (o305 P) (.node (o497 P) .nil .nil) (.node (o641 P) .nil .nil))) (.node (o188 P) (.node (o264 P) (.node (o463 P) .nil .nil) (.node (o604 P) .nil .nil)) (.node (o390 P) (.node (o530 P) .nil .nil) .nil))))) (.node (o381 P) (.node (o79 P) (.node (o104 P) (.node (o136 P) (.node (o200 P) (.node (o402 P) .nil .nil) (.node (o542 P) .nil .nil)) (.node (o278 P) (.node (o476 P) .nil .nil) (.node (o617 P) .nil .nil))) (.node (o168 P) (.node (o237 P) (.node (o438 P) .nil .nil) (.node (o580 P) .nil .nil)) (.node (o323 P) (.node (o509 P) .nil .nil) (.node (o653 P) .nil .nil)))) (.node (o120 P) (.node (o152 P) (.node (o216 P) (.node (o421 P) .nil .nil) (.node (o562 P) .nil .nil)) (.node (o301 P) (.node (o493 P) .nil .nil) (.node (o635 P) .nil .nil))) (.node (o184 P) (.node (o259 P) (.node (o456 P) .nil .nil) (.node (o596 P) .nil .nil)) (.node (o383 P) (.node (o526 P) .nil .nil) .nil)))) (.node (o96 P) (.node (o112 P) (.node (o144 P) (.node (o208 P) (.node (o411 P) .nil .nil) (.node (o553 P) .nil .nil)) (.node (o292 P) (.node (o485 P) .nil .nil) (.node (o626 P) .nil .nil))) (.node (o176 P) (.node (o247 P) (.node (o447 P) .nil .nil) (.node (o588 P) .nil .nil)) (.node (o331 P) (.node (o518 P) .nil .nil) (.node (o661 P) .nil .nil)))) (.node (o128 P) (.node (o160 P) (.node (o224 P) (.node (o429 P) .nil .nil) (.node (o572 P) .nil .nil)) (.node (o309 P) (.node (o501 P) .nil .nil) (.node (o645 P) .nil .nil))) (.node (o192 P) (.node (o268 P) (.node (o467 P) .nil .nil) (.node (o609 P) .nil .nil)) (.node (o394 P) (.node (o534 P) .nil .nil) .nil)))))) (.node (boot_o_6 P) (.node (boot_o_10 P) (.node (o77 P) (.node (o102 P) (.node (o134 P) (.node (o198 P) (.node (o400 P) .nil .nil) (.node (o540 P) .nil .nil)) (.node (o276 P) (.node (o473 P) .nil .nil) (.node (o615 P) .nil .nil))) (.node (o166 P) (.node (o230 P) (.node (o436 P) .nil .nil) (.node (o578 P) .nil .nil)) (.node (o321 P) (.node (o507 P) .nil .nil) (.node (o651 P) .nil .nil)))) (.node (o118 P) (.node (o150 P) (.node (o214 P) (.node (o418 P) .nil .nil) (.node (o560 P) .nil .nil)) (.node (o299 P) (.node (o491 P) .nil .nil) (.node (o633 P) .nil .nil))) (.node (o182 P) (.node (o257 P) (.node (o453 P) .nil .nil) (.node (o594 P) .nil .nil)) (.node (o337 P) (.node (o524 P) .nil .nil) .nil)))) (.node (o92 P) (.node (o110 P) (.node (o142 P) (.node (o206 P) (.node (o409 P) .nil .nil) (.node (o551 P) .nil .nil)) (.node (o290 P) (.node (o482 P) .nil .nil) (.node (o624 P) .nil .nil))) (.node (o174 P) (.node (o245 P) (.node (o445 P) .nil .nil) (.node (o586 P) .nil .nil)) (.node (o329 P) (.node (o515 P) .nil .nil) (.node (o659 P) .nil .nil)))) (.node (o126 P) (.node (o158 P) (.node (o222 P) (.node (o427 P) .nil .nil) (.node (o568 P) .nil .nil)) (.node (o307 P) (.node (o499 P) .nil .nil) (.node (o643 P) .nil .nil))) (.node (o190 P) (.node (o266 P) (.node (o465 P) .nil .nil) (.node (o606 P) .nil .nil)) (.node (o392 P) (.node (o532 P) .nil .nil) .nil))))) (.node (o7 P) (.node (o81 P) (.node (o106 P) (.node (o138 P) (.node (o202 P) (.node (o404 P) .nil .nil) (.node (o544 P) .nil .nil)) (.node (o286 P) (.node (o478 P) .nil .nil) (.node (o619 P) .nil .nil))) (.node (o170 P) (.node (o239 P) (.node (o441 P) .nil .nil) (.node (o582 P) .nil .nil)) (.node (o325 P) (.node (o511 P) .nil .nil) (.node (o655 P) .nil .nil)))) (.node (o122 P) (.node (o154 P) (.node (o218 P) (.node (o423 P) .nil .nil) (.node (o564 P) .nil .nil)) (.node (o303 P) (.node (o495 P) .nil .nil) (.node (o639 P) .nil .nil))) (.node (o186 P) (.node (o261 P) (.node (o461 P) .nil .nil) (.node (o602 P) .nil .nil)) (.node (o388 P) (.node (o528 P) .nil .nil) .nil)))) (.node (o98 P) (.node (o114 P) (.node (o146 P) (.node (o210 P) (.node (o413 P) .nil .nil) (.node (o555 P) .nil .nil)) (.node (o294 P) (.node (o487 P) .nil .nil) (.node (o628 P) .nil .nil))) (.node (o178 P) (.node (o249 P) (.node (o449 P) .nil .nil) (.node (o590 P) .nil .nil)) (.node (o333 P) (.node (o520 P) .nil .nil) .nil))) (.node (o130 P) (.node (o162 P) (.node (o226 P) (.node (o431 P) .nil .nil) (.node (o574 P) .nil .nil)) (.node (o317 P) (.node (o503 P) .nil .nil) (.node (o647 P) .nil .nil))) (.node (o194 P) (.node (o270 P) (.node (o469 P) .nil .nil) (.node (o611 P) .nil .nil)) (.node (o396 P) (.node (o536 P) .nil .nil) .nil))))))))
noncomputable def St1 (w:PySem.World)(os:PySem.OsState):PySem.W.SharedT:=PySem.W.SharedT.mk (T1 w.params) 493 (PySem.Life.mk [] [] [] 0 [] [] Bool.false ⟨[]⟩ [] 0 Bool.false Bool.false Bool.false (Int.ofNat 0) [(Int.ofNat 2000),(Int.ofNat 10),(Int.ofNat 10)] Bool.false 0 Bool.true [] [] 0 Bool.false) (Array.mk []) (PySem.Drawn.mk 0 0 0 0) 852 os
noncomputable def Tf:PySem.Params→PySem.W.BT:=fun P=>(.node (boot_o_0 P) (.node (boot_o_1 P) (.node (o341 P) (.node (boot_o_7 P) (.node (o65 P) (.node (o99 P) (.node (o131 P) (.node (o195 P) (.node (o397 P) .nil .nil) (.node (o537 P) .nil .nil)) (.node (o273 P) (.node (o470 P) .nil .nil) (.node (o612 P) .nil .nil))) (.node (o163 P) (.node (o227 P) (.node (o432 P) .nil .nil) (.node (o575 P) .nil .nil)) (.node (o318 P) (.node (o504 P) .nil .nil) (.node (o648 P) .nil .nil)))) (.node (o115 P) (.node (o147 P) (.node (o211 P) (.node (o414 P) .nil .nil) (.node (o557 P) .nil .nil)) (.node (o296 P) (.node (o488 P) .nil .nil) (.node (o630 P) .nil .nil))) (.node (o179 P) (.node (o250 P) (.node (o450 P) .nil .nil) (.node (o591 P) .nil .nil)) (.node (o334 P) (.node (o521 P) .nil .nil) .nil)))) (.node (o82 P) (.node (o107 P) (.node (o139 P) (.node (o203 P) (.node (o405 P) .nil .nil) (.node (o545 P) .nil .nil)) (.node (o287 P) (.node (o479 P) .nil .nil) (.node (o620 P) .nil .nil))) (.node (o171 P) (.node (o242 P) (.node (o442 P) .nil .nil) (.node (o583 P) .nil .nil)) (.node (o326 P) (.node (o512 P) .nil .nil) (.node (o656 P) .nil .nil)))) (.node (o123 P) (.node (o155 P) (.node (o219 P) (.node (o424 P) .nil .nil) (.node (o565 P) .nil .nil)) (.node (o304 P) (.node (o496 P) .nil .nil) (.node (o640 P) .nil .nil))) (.node (o187 P) (.node (o262 P) (.node (o462 P) .nil .nil) (.node (o603 P) .nil .nil)) (.node (o389 P) (.node (o529 P) .nil .nil) .nil))))) (.node (o0 P) (.node (o78 P) (.node (o103 P) (.node (o135 P) (.node (o199 P) (.node (o401 P) .nil .nil) (.node (o541 P) .nil .nil)) (.node (o277 P) (.node (o474 P) .nil .nil) (.node (o616 P) .nil .nil))) (.node (o167 P) (.node (o236 P) (.node (o437 P) .nil .nil) (.node (o579 P) .nil .nil)) (.node (o322 P) (.node (o508 P) .nil .nil) (.node (o652 P) .nil .nil)))) (.node (o119 P) (.node (o151 P) (.node (o215 P) (.node (o419 P) .nil .nil) (.node (o561 P) .nil .nil)) (.node (o300 P) (.node (o492 P) .nil .nil) (.node (o634 P) .nil .nil))) (.node (o183 P) (.node (o258 P) (.node (o455 P) .nil .nil) (.node (o595 P) .nil .nil)) (.node (o382 P) (.node (o525 P) .nil .nil) .nil)))) (.node (o94 P) (.node (o111 P) (.node (o143 P) (.node (o207 P) (.node (o410 P) .nil .nil) (.node (o552 P) .nil .nil)) (.node (o291 P) (.node (o484 P) .nil .nil) (.node (o625 P) .nil .nil))) (.node (o175 P) (.node (o246 P) (.node (o446 P) .nil .nil) (.node (o587 P) .nil .nil)) (.node (o330 P) (.node (o517 P) .nil .nil) (.node (o660 P) .nil .nil)))) (.node (o127 P) (.node (o159 P) (.node (o223 P) (.node (o428 P) .nil .nil) (.node (o571 P) .nil .nil)) (.node (o308 P) (.node (o500 P) .nil .nil) (.node (o644 P) .nil .nil))) (.node (o191 P) (.node (o267 P) (.node (o466 P) .nil .nil) (.node (o607 P) .nil .nil)) (.node (o393 P) (.node (o533 P) .nil .nil) .nil)))))) (.node (boot_o_5 P) (.node (boot_o_9 P) (.node (o71 P) (.node (o101 P) (.node (o133 P) (.node (o197 P) (.node (o399 P) .nil .nil) (.node (o539 P) .nil .nil)) (.node (o275 P) (.node (o472 P) .nil .nil) (.node (o614 P) .nil .nil))) (.node (o165 P) (.node (o229 P) (.node (o434 P) .nil .nil) (.node (o577 P) .nil .nil)) (.node (o320 P) (.node (o506 P) .nil .nil) (.node (o650 P) .nil .nil)))) (.node (o117 P) (.node (o149 P) (.node (o213 P) (.node (o417 P) .nil .nil) (.node (o559 P) .nil .nil)) (.node (o298 P) (.node (o490 P) .nil .nil) (.node (o632 P) .nil .nil))) (.node (o181 P) (.node (o256 P) (.node (o452 P) .nil .nil) (.node (o593 P) .nil .nil)) (.node (o336 P) (.node (o523 P) .nil .nil) .nil)))) (.node (o89 P) (.node (o109 P) (.node (o141 P) (.node (o205 P) (.node (o408 P) .nil .nil) (.node (o550 P) .nil .nil)) (.node (o289 P) (.node (o481 P) .nil .nil) (.node (o623 P) .nil .nil))) (.node (o173 P) (.node (o244 P) (.node (o444 P) .nil .nil) (.node (o585 P) .nil .nil)) (.node (o328 P) (.node (o514 P) .nil .nil) (.node (o658 P) .nil .nil)))) (.node (o125 P) (.node (o157 P) (.node (o221 P) (.node (o426 P) .nil .nil) (.node (o567 P) .nil .nil)) (.node (o306 P) (.node (o498 P) .nil .nil) (.node (o642 P) .nil .nil))) (.node (o189 P) (.node (o265 P) (.node (o464 P) .nil .nil) (.node (o605 P) .nil .nil)) (.node (o391 P) (.node (o531 P) .nil .nil) .nil))))) (.node (o3 P) (.node (o80 P) (.node (o105 P) (.node (o137 P) (.node (o201 P) (.node (o403 P) .nil .nil) (.node (o543 P) .nil .nil)) (.node (o279 P) (.node (o477 P) .nil .nil) (.node (o618 P) .nil .nil))) (.node (o169 P) (.node (o238 P) (.node (o440 P) .nil .nil) (.node (o581 P) .nil .nil)) (.node (o324 P) (.node (o510 P) .nil .nil) (.node (o654 P) .nil .nil)))) (.node (o121 P) (.node (o153 P) (.node (o217 P) (.node (o422 P) .nil .nil) (.node (o563 P) .nil .nil)) (.node (o302 P) (.node (o494 P) .nil .nil) (.node (o636 P) .nil .nil))) (.node (o185 P) (.node (o260 P) (.node (o457 P) .nil .nil) (.node (o601 P) .nil .nil)) (.node (o384 P) (.node (o527 P) .nil .nil) .nil)))) (.node (o97 P) (.node (o113 P) (.node (o145 P) (.node (o209 P) (.node (o412 P) .nil .nil) (.node (o554 P) .nil .nil)) (.node (o293 P) (.node (o486 P) .nil .nil) (.node (o627 P) .nil .nil))) (.node (o177 P) (.node (o248 P) (.node (o448 P) .nil .nil) (.node (o589 P) .nil .nil)) (.node (o332 P) (.node (o519 P) .nil .nil) .nil))) (.node (o129 P) (.node (o161 P) (.node (o225 P) (.node (o430 P) .nil .nil) (.node (o573 P) .nil .nil)) (.node (o310 P) (.node (o502 P) .nil .nil) (.node (o646 P) .nil .nil))) (.node (o193 P) (.node (o269 P) (.node (o468 P) .nil .nil) (.node (o610 P) .nil .nil)) (.node (o395 P) (.node (o535 P) .nil .nil) .nil))))))) (.node (boot_o_2 P) (.node (boot_o_4 P) (.node (boot_o_8 P) (.node (o67 P) (.node (o100 P) (.node (o132 P) (.node (o196 P) (.node (o398 P) .nil .nil) (.node (o538 P) .nil .nil)) (.node (o274 P) (.node (o471 P) .nil .nil) (.node (o613 P) .nil .nil))) (.node (o164 P) (.node (o228 P) (.node (o433 P) .nil .nil) (.node (o576 P) .nil .nil)) (.node (o319 P) (.node (o505 P) .nil .nil) (.node (o649 P) .nil .nil)))) (.node (o116 P) (.node (o148 P) (.node (o212 P) (.node (o416 P) .nil .nil) (.node (o558 P) .nil .nil)) (.node (o297 P) (.node (o489 P) .nil .nil) (.node (o631 P) .nil .nil))) (.node (o180 P) (.node (o251 P) (.node (o451 P) .nil .nil) (.node (o592 P) .nil .nil)) (.node (o335 P) (.node (o522 P) .nil .nil) .nil)))) (.node (o84 P) (.node (o108 P) (.node (o140 P) (.node (o204 P) (.node (o406 P) .nil .nil) (.node (o549 P) .nil .nil)) (.node (o288 P) (.node (o480 P) .nil .nil) (.node (o622 P) .nil .nil))) (.node (o172 P) (.node (o243 P) (.node (o443 P) .nil .nil) (.node (o584 P) .nil .nil)) (.node (o327 P) (.node (o513 P) .nil .nil) (.node (o657 P) .nil .nil)))) (.node (o124 P) (.node (o156 P) (.node (o220 P) (.node (o425 P) .nil .nil) (.node (o566 P) .nil .nil)) (.node (o305 P) (.node (o497 P) .nil .nil) (.node (o641 P) .nil .nil))) (.node (o188 P) (.node (o264 P) (.node (o463 P) .nil .nil) (.node (o604 P) .nil .nil)) (.node (o390 P) (.node (o530 P) .nil .nil) .nil))))) (.node (o381 P) (.node (o79 P) (.node (o104 P) (.node (o136 P) (.node (o200 P) (.node (o402 P) .nil .nil) (.node (o542 P) .nil .nil)) (.node (o278 P) (.node (o476 P) .nil .nil) (.node (o617 P) .nil .nil))) (.node (o168 P) (.node (o237 P) (.node (o438 P) .nil .nil) (.node (o580 P) .nil .nil)) (.node (o323 P) (.node (o509 P) .nil .nil) (.node (o653 P) .nil .nil)))) (.node (o120 P) (.node (o152 P) (.node (o216 P) (.node (o421 P) .nil .nil) (.node (o562 P) .nil .nil)) (.node (o301 P) (.node (o493 P) .nil .nil) (.node (o635 P) .nil .nil))) (.node (o184 P) (.node (o259 P) (.node (o456 P) .nil .nil) (.node (o596 P) .nil .nil)) (.node (o383 P) (.node (o526 P) .nil .nil) .nil)))) (.node (o96 P) (.node (o112 P) (.node (o144 P) (.node (o208 P) (.node (o411 P) .nil .nil) (.node (o553 P) .nil .nil)) (.node (o292 P) (.node (o485 P) .nil .nil) (.node (o626 P) .nil .nil))) (.node (o176 P) (.node (o247 P) (.node (o447 P) .nil .nil) (.node (o588 P) .nil .nil)) (.node (o331 P) (.node (o518 P) .nil .nil) (.node (o661 P) .nil .nil)))) (.node (o128 P) (.node (o160 P) (.node (o224 P) (.node (o429 P) .nil .nil) (.node (o572 P) .nil .nil)) (.node (o309 P) (.node (o501 P) .nil .nil) (.node (o645 P) .nil .nil))) (.node (o192 P) (.node (o268 P) (.node (o467 P) .nil .nil) (.node (o609 P) .nil .nil)) (.node (o394 P) (.node (o534 P) .nil .nil) .nil)))))) (.node (boot_o_6 P) (.node (boot_o_10 P) (.node (o77 P) (.node (o102 P) (.node (o134 P) (.node (o198 P) (.node (o400 P) .nil .nil) (.node (o540 P) .nil .nil)) (.node (o276 P) (.node (o473 P) .nil .nil) (.node (o615 P) .nil .nil))) (.node (o166 P) (.node (o230 P) (.node (o436 P) .nil .nil) (.node (o578 P) .nil .nil)) (.node (o321 P) (.node (o507 P) .nil .nil) (.node (o651 P) .nil .nil)))) (.node (o118 P) (.node (o150 P) (.node (o214 P) (.node (o418 P) .nil .nil) (.node (o560 P) .nil .nil)) (.node (o299 P) (.node (o491 P) .nil .nil) (.node (o633 P) .nil .nil))) (.node (o182 P) (.node (o257 P) (.node (o453 P) .nil .nil) (.node (o594 P) .nil .nil)) (.node (o337 P) (.node (o524 P) .nil .nil) .nil)))) (.node (o92 P) (.node (o110 P) (.node (o142 P) (.node (o206 P) (.node (o409 P) .nil .nil) (.node (o551 P) .nil .nil)) (.node (o290 P) (.node (o482 P) .nil .nil) (.node (o624 P) .nil .nil))) (.node (o174 P) (.node (o245 P) (.node (o445 P) .nil .nil) (.node (o586 P) .nil .nil)) (.node (o329 P) (.node (o515 P) .nil .nil) (.node (o659 P) .nil .nil)))) (.node (o126 P) (.node (o158 P) (.node (o222 P) (.node (o427 P) .nil .nil) (.node (o568 P) .nil .nil)) (.node (o307 P) (.node (o499 P) .nil .nil) (.node (o643 P) .nil .nil))) (.node (o190 P) (.node (o266 P) (.node (o465 P) .nil .nil) (.node (o606 P) .nil .nil)) (.node (o392 P) (.node (o532 P) .nil .nil) .nil))))) (.node (o7 P) (.node (o81 P) (.node (o106 P) (.node (o138 P) (.node (o202 P) (.node (o404 P) .nil .nil) (.node (o544 P) .nil .nil)) (.node (o286 P) (.node (o478 P) .nil .nil) (.node (o619 P) .nil .nil))) (.node (o170 P) (.node (o239 P) (.node (o441 P) .nil .nil) (.node (o582 P) .nil .nil)) (.node (o325 P) (.node (o511 P) .nil .nil) (.node (o655 P) .nil .nil)))) (.node (o122 P) (.node (o154 P) (.node (o218 P) (.node (o423 P) .nil .nil) (.node (o564 P) .nil .nil)) (.node (o303 P) (.node (o495 P) .nil .nil) (.node (o639 P) .nil .nil))) (.node (o186 P) (.node (o261 P) (.node (o461 P) .nil .nil) (.node (o602 P) .nil .nil)) (.node (o388 P) (.node (o528 P) .nil .nil) .nil)))) (.node (o98 P) (.node (o114 P) (.node (o146 P) (.node (o210 P) (.node (o413 P) .nil .nil) (.node (o555 P) .nil .nil)) (.node (o294 P) (.node (o487 P) .nil .nil) (.node (o628 P) .nil .nil))) (.node (o178 P) (.node (o249 P) (.node (o449 P) .nil .nil) (.node (o590 P) .nil .nil)) (.node (o333 P) (.node (o520 P) .nil .nil) .nil))) (.node (o130 P) (.node (o162 P) (.node (o226 P) (.node (o431 P) .nil .nil) (.node (o574 P) .nil .nil)) (.node (o317 P) (.node (o503 P) .nil .nil) (.node (o647 P) .nil .nil))) (.node (o194 P) (.node (o270 P) (.node (o469 P) .nil .nil) (.node (o611 P) .nil .nil)) (.node (o396 P) (.node (o536 P) .nil .nil) .nil))))))))
noncomputable def Stf (w:PySem.World)(os:PySem.OsState):PySem.W.SharedT:=PySem.W.SharedT.mk (Tf w.params) 493 (PySem.Life.mk [] [] [] 0 [] [] Bool.false ⟨[]⟩ [] 0 Bool.false Bool.false Bool.false (Int.ofNat 0) [(Int.ofNat 2000),(Int.ofNat 10),(Int.ofNat 10)] Bool.false 0 Bool.true [] [] 0 Bool.false) (Array.mk []) (PySem.Drawn.mk 0 0 0 0) 852 os
noncomputable def KF:PySem.Params→PySem.W.Frag:=fun P=>[(0,boot_o_0 P),(1,boot_o_1 P),(2,boot_o_2 P),(3,o341 P),(4,boot_o_4 P),(5,boot_o_5 P),(6,boot_o_6 P),(7,boot_o_7 P),(8,boot_o_8 P),(9,boot_o_9 P),(10,boot_o_10 P),(11,o0 P),(12,o381 P),(13,o3 P),(14,o7 P),(15,o65 P),(22,o81 P),(23,o82 P),(24,o84 P),(25,o89 P),(28,o96 P),(35,o103 P),(36,o104 P),(37,o105 P),(40,o108 P),(47,o115 P),(48,o116 P),(49,o117 P),(52,o120 P),(59,o127 P),(60,o128 P),(61,o129 P),(64,o132 P),(71,o139 P),(72,o140 P),(73,o141 P),(76,o144 P),(83,o151 P),(84,o152 P),(85,o153 P),(88,o156 P),(95,o163 P),(96,o164 P),(97,o165 P),(100,o168 P),(107,o175 P),(108,o176 P),(109,o177 P),(112,o180 P),(119,o187 P),(120,o188 P),(121,o189 P),(124,o192 P),(131,o199 P),(132,o200 P),(133,o201 P),(136,o204 P),(143,o211 P),(144,o212 P),(145,o213 P),(148,o216 P),(155,o223 P),(156,o224 P),(157,o225 P),(160,o228 P),(161,o229 P),(162,o230 P),(163,o236 P),(164,o237 P),(165,o238 P),(166,o239 P),(167,o242 P),(168,o243 P),(169,o244 P),(170,o245 P),(171,o246 P),(172,o247 P),(173,o248 P),(174,o249 P),(175,o250 P),(176,o251 P),(177,o256 P),(178,o257 P),(179,o258 P),(180,o259 P),(181,o260 P),(182,o261 P),(183,o262 P),(184,o264 P),(185,o265 P),(186,o266 P),(187,o267 P),(188,o268 P),(189,o269 P),(190,o270 P),(191,o273 P),(192,o274 P),(193,o275 P),(194,o276 P),(195,o277 P),(196,o278 P),(197,o279 P),(198,o286 P),(199,o287 P),(200,o288 P),(201,o289 P),(202,o290 P),(203,o291 P),(204,o292 P),(205,o293 P),(206,o294 P),(207,o296 P),(208,o297 P),(209,o298 P),(210,o299 P),(211,o300 P),(212,o301 P),(213,o302 P),(214,o303 P),(215,o304 P),(216,o305 P),(217,o306 P),(218,o307 P),(219,o308 P),(220,o309 P),(221,o310 P),(222,o317 P),(223,o318 P),(224,o319 P),(225,o320 P),(226,o321 P),(227,o322 P),(228,o323 P),(229,o324 P),(230,o325 P),(231,o326 P),(232,o327 P),(233,o328 P),(234,o329 P),(235,o330 P),(236,o331 P),(237,o332 P),(238,o333 P),(239,o334 P),(240,o335 P),(241,o336 P),(242,o337 P),(243,o382 P),(244,o383 P),(245,o384 P),(246,o388 P),(247,o389 P),(248,o390 P),(249,o391 P),(250,o392 P),(251,o393 P),(252,o394 P),(253,o395 P),(254,o396 P),(255,o397 P),(256,o398 P),(257,o399 P),(258,o400 P),(259,o401 P),(260,o402 P),(261,o403 P),(262,o404 P),(263,o405 P),(264,o406 P),(265,o408 P),(266,o409 P),(267,o410 P),(268,o411 P),(269,o412 P),(270,o413 P),(271,o414 P),(272,o416 P),(273,o417 P),(274,o418 P),(275,o419 P),(276,o421 P),(277,o422 P),(278,o423 P),(279,o424 P),(280,o425 P),(281,o426 P),(282,o427 P),(283,o428 P),(284,o429 P),(285,o430 P),(286,o431 P),(287,o432 P),(288,o433 P),(289,o434 P),(290,o436 P),(291,o437 P),(292,o438 P),(293,o440 P),(294,o441 P),(295,o442 P),(296,o443 P),(297,o444 P),(298,o445 P),(299,o446 P),(300,o447 P),(301,o448 P),(302,o449 P),(303,o450 P),(304,o451 P),(305,o452 P),(306,o453 P),(307,o455 P),(308,o456 P),(309,o457 P),(310,o461 P),(311,o462 P),(312,o463 P),(313,o464 P),(314,o465 P),(315,o466 P),(316,o467 P),(317,o468 P),(318,o469 P),(319,o470 P),(320,o471 P),(321,o472 P),(322,o473 P),(323,o474 P),(324,o476 P),(325,o477 P),(326,o478 P),(327,o479 P),(328,o480 P),(329,o481 P),(330,o482 P),(331,o484 P),(332,o485 P),(333,o486 P),(334,o487 P),(335,o488 P),(336,o489 P),(337,o490 P),(338,o491 P),(339,o492 P),(340,o493 P),(341,o494 P),(342,o495 P),(343,o496 P),(344,o497 P),(345,o498 P),(346,o499 P),(347,o500 P),(348,o501 P),(349,o502 P),(350,o503 P),(351,o504 P),(352,o505 P),(353,o506 P),(354,o507 P),(355,o508 P),(356,o509 P),(357,o510 P),(358,o511 P),(359,o512 P),(360,o513 P),(361,o514 P),(362,o515 P),(363,o517 P),(364,o518 P),(365,o519 P),(366,o520 P),(367,o521 P),(368,o522 P),(369,o523 P),(370,o524 P),(371,o525 P),(372,o526 P),(373,o527 P),(374,o528 P),(375,o529 P),(376,o530 P),(377,o531 P),(378,o532 P),(379,o533 P),(380,o534 P),(381,o535 P),(382,o536 P),(383,o537 P),(384,o538 P),(385,o539 P),(386,o540 P),(387,o541 P),(388,o542 P),(389,o543 P),(390,o544 P),(391,o545 P),(392,o549 P),(393,o550 P),(394,o551 P),(395,o552 P),(396,o553 P),(397,o554 P),(398,o555 P),(399,o557 P),(400,o558 P),(401,o559 P),(402,o560 P),(403,o561 P),(404,o562 P),(405,o563 P),(406,o564 P),(407,o565 P),(408,o566 P),(409,o567 P),(410,o568 P),(411,o571 P),(412,o572 P),(413,o573 P),(414,o574 P),(415,o575 P),(416,o576 P),(417,o577 P),(418,o578 P),(419,o579 P),(420,o580 P),(421,o581 P),(422,o582 P),(423,o583 P),(424,o584 P),(425,o585 P),(426,o586 P),(427,o587 P),(428,o588 P),(429,o589 P),(430,o590 P),(431,o591 P),(432,o592 P),(433,o593 P),(434,o594 P),(435,o595 P),(436,o596 P),(437,o601 P),(438,o602 P),(439,o603 P),(440,o604 P),(441,o605 P),(442,o606 P),(443,o607 P),(444,o609 P),(445,o610 P),(446,o611 P),(447,o612 P),(448,o613 P),(449,o614 P),(450,o615 P),(451,o616 P),(452,o617 P),(453,o618 P),(454,o619 P),(455,o620 P),(456,o622 P),(457,o623 P),(458,o624 P),(459,o625 P),(460,o626 P),(461,o627 P),(462,o628 P),(463,o630 P),(464,o631 P),(465,o632 P),(466,o633 P),(467,o634 P),(468,o635 P),(469,o636 P),(470,o639 P),(471,o640 P),(472,o641 P),(473,o642 P),(474,o643 P),(475,o644 P),(476,o645 P),(477,o646 P),(478,o647 P),(479,o648 P),(480,o649 P),(481,o650 P),(482,o651 P),(483,o652 P),(484,o653 P),(485,o654 P),(486,o655 P),(487,o656 P),(488,o657 P),(489,o658 P),(490,o659 P),(491,o660 P),(492,o661 P)]
abbrev AS:List PySem.Addr:=[0,1,2,3,4,5,6,7,8,9,10,11,12,13,14,15,22,23,24,25,28,35,36,37,40,47,48,49,52,59,60,61,64,71,72,73,76,83,84,85,88,95,96,97,100,107,108,109,112,119,120,121,124,131,132,133,136,143,144,145,148,155,156,157,160,161,162,163,164,165,166,167,168,169,170,171,172,173,174,175,176,177,178,179,180,181,182,183,184,185,186,187,188,189,190,191,192,193,194,195,196,197,198,199,200,201,202,203,204,205,206,207,208,209,210,211,212,213,214,215,216,217,218,219,220,221,222,223,224,225,226,227,228,229,230,231,232,233,234,235,236,237,238,239,240,241,242,243,244,245,246,247,248,249,250,251,252,253,254,255,256,257,258,259,260,261,262,263,264,265,266,267,268,269,270,271,272,273,274,275,276,277,278,279,280,281,282,283,284,285,286,287,288,289,290,291,292,293,294,295,296,297,298,299,300,301,302,303,304,305,306,307,308,309,310,311,312,313,314,315,316,317,318,319,320,321,322,323,324,325,326,327,328,329,330,331,332,333,334,335,336,337,338,339,340,341,342,343,344,345,346,347,348,349,350,351,352,353,354,355,356,357,358,359,360,361,362,363,364,365,366,367,368,369,370,371,372,373,374,375,376,377,378,379,380,381,382,383,384,385,386,387,388,389,390,391,392,393,394,395,396,397,398,399,400,401,402,403,404,405,406,407,408,409,410,411,412,413,414,415,416,417,418,419,420,421,422,423,424,425,426,427,428,429,430,431,432,433,434,435,436,437,438,439,440,441,442,443,444,445,446,447,448,449,450,451,452,453,454,455,456,457,458,459,460,461,462,463,464,465,466,467,468,469,470,471,472,473,474,475,476,477,478,479,480,481,482,483,484,485,486,487,488,489,490,491,492]
abbrev keep:List Nat:=[1,2,3,4,5,6,7,8,9,10,11,12,14,15,16,17,18,19,20,22,23,24,25,26,27,28,29,31,32,33,34,36,37,39,40,41,43,44,45,46,47,48,49,50,52,53,54,55,56,57,58,59,60,62,63,64,65,66,67,68,69,70,71,72,73,74]
abbrev loose:List PySem.Str:=[]
noncomputable abbrev sts0:List PySem.Stmt:=((behindTheImports TW).drop 0).take 31
abbrev pos0:PySem.Pos:=(PySem.Pos.mk 102 0 102 8)
noncomputable abbrev sts1:List PySem.Stmt:=((behindTheImports TW).drop 31).take 44
abbrev pos1:PySem.Pos:=(PySem.Pos.mk 313 0 336 92)
theorem pre (w:World):(fun os=>topGo treeTable TW w m0 ann kA ⟨boot_heap w.params,Array.mk [],boot_drawn,boot_toks,os⟩ (topStub TW))=fun os=>some ((Sta w os).abs,⟨denote treeTable cE,cE,posA,Bs⟩):=by
 rw[Fast.te15667345088766844465,Fast.te14364793385576792824,Fast.te11892475500146522536]
 kernel_rfl
theorem blk (w:World):(fun os=>segRunT treeTable TW w m0 ann 1 (kB+1) (Sta w os) (blockOf (behindTheImports TW) env cE posA Bs))=fun os=>some (Flow.next,Stb w os,cE,posB):=by
 rw[Fast.te10110043849684766642,Fast.te14364793385576792824]
 kernel_rfl
theorem pc0 (w:World):(fun os=>segRunT treeTable TW w m0 ann 1 2981 (Stb w os) (piecesOf sts0 env cE posB Bs))=fun os=>some (Flow.next,St0 w os,cE,pos0):=by
 rw[Fast.te10110043849684766642,Fast.te14364793385576792824]
 kernel_rfl
theorem pc1 (w:World):(fun os=>segRunT treeTable TW w m0 ann 1 1203 (St0 w os) (piecesOf sts1 env cE pos0 Bs))=fun os=>some (Flow.next,St1 w os,cE,pos1):=by
 rw[Fast.te10110043849684766642,Fast.te14364793385576792824]
 kernel_rfl
theorem fin (w:World):(fun os=>topRun treeTable TW w m0 ann (kF+1) (St1 w os).abs ⟨doneF Flow.next,cE,pos1,Bs⟩)=fun os=>some (Stf w os).abs:=by
 rw[Fast.te14082659384304107361,Fast.te14364793385576792824]
 kernel_rfl
theorem cut:behindTheImports TW=sts0 ++ (sts1 ++ []):=by kernel_rfl
theorem rest (w:World)(os:OsState):topRun treeTable TW w m0 ann (2981+(1203+(kF+1))) (Stb w os).abs (restOf (behindTheImports TW) env cE posB Bs)=some (Stf w os).abs:=by
 have h:topRun treeTable TW w m0 ann (2981+(1203+(kF+1))) (Stb w os).abs (restOf (sts0 ++ (sts1 ++ [])) env cE posB Bs)=some (Stf w os).abs:=piece_app (segRun_of (congrFun (pc0 w) os)) (piece_app (segRun_of (congrFun (pc1 w) os)) (piece_nil (congrFun (fin w) os)))
 exact (congrArg (fun b=>topRun treeTable TW w m0 ann (2981+(1203+(kF+1))) (Stb w os).abs (restOf b env cE posB Bs)) cut).trans h
theorem run (w:World)(os:OsState):topRun treeTable TW w m0 ann (kA+(kB+1+(2981+(1203+(kF+1))))) ⟨boot_heap w.params,Array.mk [],boot_drawn,boot_toks,os⟩ (topStub TW)=some (Stf w os).abs:=go_top (congrFun (pre w) os) (piece_block (segRun_of (congrFun (blk w) os)) (rest w os))
theorem opn:opening TW=plainProg TW.main.scope.names:=by
 kernel_rfl
theorem fence (s:Shared):fenceModules? TW s=some s:=by
 try rw[Fast.te14289696077712309145]
 kernel_rfl
theorem size (w:World):((boot_heap w.params).isNs mainGlobals && (Array.mk []:Array GenState).size == 0,(boot_heap w.params).objs.size,(boot_heap w.params).nsMap mainGlobals "__annotations__")=(true,m0,ann):=by
 try rw[Fast.te8920871248978507458]
 kernel_rfl
noncomputable abbrev Q:PySem.Program:=view TW keep
noncomputable def Hf (P:Params):Heap:=absHeap (Tf P) 493 (PySem.Life.mk [] [] [] 0 [] [] Bool.false ⟨[]⟩ [] 0 Bool.false Bool.false Bool.false (Int.ofNat 0) [(Int.ofNat 2000),(Int.ofNat 10),(Int.ofNat 10)] Bool.false 0 Bool.true [] [] 0 Bool.false)
noncomputable abbrev Xt (s:Shared):Bool:=xlAt Q [] s && recOk (RowW.records (OpenRow.toRowW (OpenLaw.row PySem.Challenge.rw_evenhub_k59_all_sides))) s
theorem lk0 (w:World)(os:OsState):(staticsOk (importedModules TW.main.body) (boot_heap w.params) (Hf w.params) && namesBound TW (Hf w.params) && gensDone ⟨Hf w.params,(Array.mk []),(PySem.Drawn.mk 0 0 0 0),852,os⟩ && laidKept (boot_heap w.params) (Hf w.params))=true:=by
 try rw[Fast.te5923862056798008813]
 try rw[Fast.te5160383126252970620]
 try rw[Fast.te3399658132070893891]
 try rw[Fast.te5991557255702980513]
 try rw[Fast.te10880121769531294198]
 try rw[Fast.te821141287760084731]
 try rw[Fast.te7409074990110511671]
 try rw[Fast.te13664370479719496447]
 try rw[Fast.te14722251495701143533]
 try rw[Fast.te10994771534591457954]
 try rw[Fast.te479339242167458305]
 try rw[Fast.te16090120013241838585]
 try rw[Fast.te3247288618530077131]
 try rw[Fast.te2386780881361962483]
 try rw[Fast.te11698064438423848299]
 try rw[Fast.te7317090234206586261]
 try rw[Fast.te7369524293546568484]
 kernel_rfl
theorem lk1 (w:World)(os:OsState):openSeen Q loose (importedModules TW.main.body) Xt true ⟨Hf w.params,(Array.mk []),(PySem.Drawn.mk 0 0 0 0),852,os⟩=openGood Q loose:=by
 unfold openSeen openGood
 refine looks_pair ?_ (looks_pair ?_ (looks_pair ?_ (looks_pair ?_ (looks_pair ?_ (looks_pair ?_ (looks_pair ?_ (looks_pair ?_ ?_)))))))
 ·try rw[Fast.te5923862056798008813]
  try rw[Fast.te5160383126252970620]
  try rw[Fast.te3399658132070893891]
  try rw[Fast.te5991557255702980513]
  try rw[Fast.te10880121769531294198]
  try rw[Fast.te821141287760084731]
  try rw[Fast.te7409074990110511671]
  try rw[Fast.te13664370479719496447]
  try rw[Fast.te14722251495701143533]
  try rw[Fast.te10994771534591457954]
  try rw[Fast.te479339242167458305]
  try rw[Fast.te16090120013241838585]
  try rw[Fast.te3247288618530077131]
  try rw[Fast.te2386780881361962483]
  try rw[Fast.te11698064438423848299]
  try rw[Fast.te7317090234206586261]
  try rw[Fast.te7369524293546568484]
  kernel_rfl
 ·try rw[Fast.te5923862056798008813]
  try rw[Fast.te5160383126252970620]
  try rw[Fast.te3399658132070893891]
  try rw[Fast.te5991557255702980513]
  try rw[Fast.te10880121769531294198]
  try rw[Fast.te821141287760084731]
  try rw[Fast.te7409074990110511671]
  try rw[Fast.te13664370479719496447]
  try rw[Fast.te14722251495701143533]
  try rw[Fast.te10994771534591457954]
  try rw[Fast.te479339242167458305]
  try rw[Fast.te16090120013241838585]
  try rw[Fast.te3247288618530077131]
  try rw[Fast.te2386780881361962483]
  try rw[Fast.te11698064438423848299]
  try rw[Fast.te7317090234206586261]
  try rw[Fast.te7369524293546568484]
  kernel_rfl
 ·try rw[Fast.te5923862056798008813]
  try rw[Fast.te5160383126252970620]
  try rw[Fast.te3399658132070893891]
  try rw[Fast.te5991557255702980513]
  try rw[Fast.te10880121769531294198]
  try rw[Fast.te821141287760084731]
  try rw[Fast.te7409074990110511671]
  try rw[Fast.te13664370479719496447]
  try rw[Fast.te14722251495701143533]
  try rw[Fast.te10994771534591457954]
  try rw[Fast.te479339242167458305]
  try rw[Fast.te16090120013241838585]
  try rw[Fast.te3247288618530077131]
  try rw[Fast.te2386780881361962483]
  try rw[Fast.te11698064438423848299]
  try rw[Fast.te7317090234206586261]
  try rw[Fast.te7369524293546568484]
  kernel_rfl
 ·try rw[Fast.te5923862056798008813]
  try rw[Fast.te5160383126252970620]
  try rw[Fast.te3399658132070893891]
  try rw[Fast.te5991557255702980513]
  try rw[Fast.te10880121769531294198]
  try rw[Fast.te821141287760084731]
  try rw[Fast.te7409074990110511671]
  try rw[Fast.te13664370479719496447]
  try rw[Fast.te14722251495701143533]
  try rw[Fast.te10994771534591457954]
  try rw[Fast.te479339242167458305]
  try rw[Fast.te16090120013241838585]
  try rw[Fast.te3247288618530077131]
  try rw[Fast.te2386780881361962483]
  try rw[Fast.te11698064438423848299]
  try rw[Fast.te7317090234206586261]
  try rw[Fast.te7369524293546568484]
  kernel_rfl
 ·try rw[Fast.te5923862056798008813]
  try rw[Fast.te5160383126252970620]
  try rw[Fast.te3399658132070893891]
  try rw[Fast.te5991557255702980513]
  try rw[Fast.te10880121769531294198]
  try rw[Fast.te821141287760084731]
  try rw[Fast.te7409074990110511671]
  try rw[Fast.te13664370479719496447]
  try rw[Fast.te14722251495701143533]
  try rw[Fast.te10994771534591457954]
  try rw[Fast.te479339242167458305]
  try rw[Fast.te16090120013241838585]
  try rw[Fast.te3247288618530077131]
  try rw[Fast.te2386780881361962483]
  try rw[Fast.te11698064438423848299]
  try rw[Fast.te7317090234206586261]
  try rw[Fast.te7369524293546568484]
  kernel_rfl
 ·try rw[Fast.te5923862056798008813]
  try rw[Fast.te5160383126252970620]
  try rw[Fast.te3399658132070893891]
  try rw[Fast.te5991557255702980513]
  try rw[Fast.te10880121769531294198]
  try rw[Fast.te821141287760084731]
  try rw[Fast.te7409074990110511671]
  try rw[Fast.te13664370479719496447]
  try rw[Fast.te14722251495701143533]
  try rw[Fast.te10994771534591457954]
  try rw[Fast.te479339242167458305]
  try rw[Fast.te16090120013241838585]
  try rw[Fast.te3247288618530077131]
  try rw[Fast.te2386780881361962483]
  try rw[Fast.te11698064438423848299]
  try rw[Fast.te7317090234206586261]
  try rw[Fast.te7369524293546568484]
  kernel_rfl
 ·try rw[Fast.te5923862056798008813]
  try rw[Fast.te5160383126252970620]
  try rw[Fast.te3399658132070893891]
  try rw[Fast.te5991557255702980513]
  try rw[Fast.te10880121769531294198]
  try rw[Fast.te821141287760084731]
  try rw[Fast.te7409074990110511671]
  try rw[Fast.te13664370479719496447]
  try rw[Fast.te14722251495701143533]
  try rw[Fast.te10994771534591457954]
  try rw[Fast.te479339242167458305]
  try rw[Fast.te16090120013241838585]
  try rw[Fast.te3247288618530077131]
  try rw[Fast.te2386780881361962483]
  try rw[Fast.te11698064438423848299]
  try rw[Fast.te7317090234206586261]
  try rw[Fast.te7369524293546568484]
  kernel_rfl
 ·try rw[Fast.te5923862056798008813]
  try rw[Fast.te5160383126252970620]
  try rw[Fast.te3399658132070893891]
  try rw[Fast.te5991557255702980513]
  try rw[Fast.te10880121769531294198]
  try rw[Fast.te821141287760084731]
  try rw[Fast.te7409074990110511671]
  try rw[Fast.te13664370479719496447]
  try rw[Fast.te14722251495701143533]
  try rw[Fast.te10994771534591457954]
  try rw[Fast.te479339242167458305]
  try rw[Fast.te16090120013241838585]
  try rw[Fast.te3247288618530077131]
  try rw[Fast.te2386780881361962483]
  try rw[Fast.te11698064438423848299]
  try rw[Fast.te7317090234206586261]
  try rw[Fast.te7369524293546568484]
  kernel_rfl
 ·try rw[Fast.te5923862056798008813]
  try rw[Fast.te5160383126252970620]
  try rw[Fast.te3399658132070893891]
  try rw[Fast.te5991557255702980513]
  try rw[Fast.te10880121769531294198]
  try rw[Fast.te821141287760084731]
  try rw[Fast.te7409074990110511671]
  try rw[Fast.te13664370479719496447]
  try rw[Fast.te14722251495701143533]
  try rw[Fast.te10994771534591457954]
  try rw[Fast.te479339242167458305]
  try rw[Fast.te16090120013241838585]
  try rw[Fast.te3247288618530077131]
  try rw[Fast.te2386780881361962483]
  try rw[Fast.te11698064438423848299]
  try rw[Fast.te7317090234206586261]
  try rw[Fast.te7369524293546568484]
  kernel_rfl
theorem lk2 (w:World)(os:OsState):X.obsZ AS ⟨Hf w.params,(Array.mk []),(PySem.Drawn.mk 0 0 0 0),852,os⟩=X.valZ KF 493 852 w:=by kernel_rfl
theorem left:LeftO TW Q loose Xt (X.obsZ AS) (X.valZ KF 493 852) 8490 :=
 LeftO.of_pieces (H₀:=boot_heap) (H₁:=Hf) (gs₀:=Array.mk []) (gs₁:=(Array.mk [])) (d₀:=boot_drawn) (d₁:=(PySem.Drawn.mk 0 0 0 0)) (k₀:=boot_toks) (k₁:=852) (m₀:=m0) (ann:=ann) (M:=kA+(kB+1+(2981+(1203+(kF+1)))))
  (boot_open opn (by decide +kernel) fence) size run (by decide +kernel) (fun w=>funext fun os=>looks_pair (lk0 w os) (looks_pair (lk1 w os) (lk2 w os)))
theorem left':LeftO PySem.Challenge.pw_evenhub_k59_all_sides (view PySem.Challenge.pw_evenhub_k59_all_sides keep) loose (fun s=>xlAt (view PySem.Challenge.pw_evenhub_k59_all_sides keep) [] s && recOk (RowW.records (OpenRow.toRowW (OpenLaw.row PySem.Challenge.rw_evenhub_k59_all_sides))) s) (X.obsZ AS) (X.valZ KF 493 852) 8490:=by
 rw[Fast.te11577465615306499093]
 exact left
end Hd
theorem PySem.W.X.walkX_of {q:PySem.Program}{loose:List PySem.Str}{XP:(PySem.Str→Option PySem.Value)→PySem.Heap→Prop}{K:PySem.Params→PySem.W.Frag}{as:List PySem.Addr}{n t:Nat}{r:PySem.W.RowW}{d:PySem.DefRec}{kwd:List (PySem.Str×PySem.Expr)}{run:PySem.Value→List PySem.Value→PySem.Sem PySem.Value}
  (e:∀ P,as=(K P).map (·.1))(W:PySem.W.WalkO q loose XP (fun w h=>(K w.params).In h) r d kwd run):PySem.W.WalkX q loose XP (PySem.W.X.obsZ as) (PySem.W.X.valZ K n t) r d kwd run :=
 fun w s₀ s₁ mg mb G y a o pm cd doc dV kV ho hd hcd hD hmg hg args vals asx L hpre hlay hrd hwl hlo =>
  W w s₀ s₁ mg mb G (PySem.W.InK.keeps w _ _ (PySem.W.X.z_facts e y).2.1 L.keeps) a o pm cd doc dV kV ho hd hcd hD hmg hg args vals asx hpre hlay hrd hwl hlo
open PySem PySem.W PySem.W.X PyProof.Rows Hd in
set_option maxRecDepth 100000 in
set_option maxHeartbeats 0 in
theorem PySem.Challenge.cw_evenhub_k59_all_sides_holds : PySem.Challenge.rw_evenhub_k59_all_sides.Holds := by
 w_on;o_law
 refine holds_openX (q:=(view PySem.Challenge.pw_evenhub_k59_all_sides keep)) (loose:=loose) (Xt:=fun s=>xlAt (view PySem.Challenge.pw_evenhub_k59_all_sides keep) [] s && recOk (RowW.records (OpenRow.toRowW (OpenLaw.row PySem.Challenge.rw_evenhub_k59_all_sides))) s) (XP:=XL (view PySem.Challenge.pw_evenhub_k59_all_sides keep) []) (Yf:=X.obsZ AS) (Ya:=X.valZ KF 493 852) (N:=8490) left' (fun s e=>xl_of s (Bool.and_eq_true_iff.mp e).1) XL.keeps (by rfl) (by rfl) (by rfl) (fun s e=>recFacts_of (Bool.and_eq_true_iff.mp e).2) (by rfl) (by first | assumption | decide +kernel) (by decide +kernel) ⟨rfl,rfl,rfl,rfl,rfl,by decide +kernel⟩ ?hw ?hc
 case hw=>w_witness2
 refine PySem.W.X.walkX_of (fun _=>by kernel_rfl) (K59.walk (l:=PySem.Challenge.rw_evenhub_k59_all_sides) rfl rfl (fun w h Y=>Y) ?F)
 intro w mg fa h KX G hmg
 refine' K59.all_mk (f0:=166) (oc0:=(.type l17)) (od0:=none) (sl0:=⟨[]⟩) (kV0:=.none) (dc0:=.none) (pm0:=(.str q51 383)) (an0:=none) (cd0:=(.ref 165)) (ct0:=.none) (f1:=173) (oc1:=(.type l17)) (od1:=none) (sl1:=⟨[]⟩) (kV1:=.none) (dc1:=.none) (pm1:=(.str q51 383)) (an1:=none) (cd1:=(.ref 172)) (ct1:=.none) (f2:=180) (oc2:=(.type l17)) (od2:=none) (sl2:=⟨[]⟩) (kV2:=.none) (dc2:=.none) (pm2:=(.str q51 383)) (an2:=none) (cd2:=(.ref 179)) (ct2:=.none) (f3:=187) (oc3:=(.type l17)) (od3:=none) (sl3:=⟨[]⟩) (kV3:=.none) (dc3:=.none) (pm3:=(.str q51 383)) (an3:=none) (cd3:=(.ref 186)) (ct3:=.none) (f4:=194) (oc4:=(.type l17)) (od4:=none) (sl4:=⟨[]⟩) (kV4:=.none) (dc4:=.none) (pm4:=(.str q51 383)) (an4:=none) (cd4:=(.ref 193)) (ct4:=.none) (f5:=201) (oc5:=(.type l17)) (od5:=none) (sl5:=⟨[]⟩) (kV5:=.none) (dc5:=.none) (pm5:=(.str q51 383)) (an5:=none) (cd5:=(.ref 200)) (ct5:=.none) (f6:=206) (oc6:=(.type l17)) (od6:=none) (sl6:=⟨[]⟩) (kV6:=.none) (dc6:=.none) (pm6:=(.str q65 450)) (an6:=none) (cd6:=(.ref 205)) (ct6:=.none) (f7:=213) (oc7:=(.type l17)) (od7:=none) (sl7:=⟨[]⟩) (kV7:=.none) (dc7:=.none) (pm7:=(.str q65 450)) (an7:=none) (cd7:=(.ref 212)) (ct7:=.none) (f8:=218) (oc8:=(.type l17)) (od8:=none) (sl8:=⟨[]⟩) (kV8:=.none) (dc8:=.none) (pm8:=(.str q65 450)) (an8:=none) (cd8:=(.ref 217)) (ct8:=.none) (f9:=225) (oc9:=(.type l17)) (od9:=none) (sl9:=⟨[]⟩) (kV9:=.none) (dc9:=.none) (pm9:=(.str q65 450)) (an9:=none) (cd9:=(.ref 224)) (ct9:=.none) (f10:=230) (oc10:=(.type l17)) (od10:=none) (sl10:=⟨[]⟩) (kV10:=.none) (dc10:=.none) (pm10:=(.str q65 450)) (an10:=none) (cd10:=(.ref 229)) (ct10:=.none) (f11:=235) (oc11:=(.type l17)) (od11:=none) (sl11:=⟨[]⟩) (kV11:=.none) (dc11:=.none) (pm11:=(.str q65 450)) (an11:=none) (cd11:=(.ref 234)) (ct11:=.none) (f12:=242) (oc12:=(.type l17)) (od12:=none) (sl12:=⟨[]⟩) (kV12:=.none) (dc12:=.none) (pm12:=(.str q65 450)) (an12:=none) (cd12:=(.ref 241)) (ct12:=.none) (f13:=249) (oc13:=(.type l17)) (od13:=none) (sl13:=⟨[]⟩) (kV13:=.none) (dc13:=.none) (pm13:=(.str q4 510)) (an13:=none) (cd13:=(.ref 248)) (ct13:=.none) (f14:=256) (oc14:=(.type l17)) (od14:=none) (sl14:=⟨[]⟩) (kV14:=.none) (dc14:=.none) (pm14:=(.str q4 510)) (an14:=none) (cd14:=(.ref 255)) (ct14:=.none) (f15:=261) (oc15:=(.type l17)) (od15:=none) (sl15:=⟨[]⟩) (kV15:=.none) (dc15:=.none) (pm15:=(.str q4 510)) (an15:=none) (cd15:=(.ref 260)) (ct15:=.none) (f16:=268) (oc16:=(.type l17)) (od16:=none) (sl16:=⟨[]⟩) (kV16:=.none) (dc16:=.none) (pm16:=(.str q4 510)) (an16:=none) (cd16:=(.ref 267)) (ct16:=.none) (f17:=275) (oc17:=(.type l17)) (od17:=none) (sl17:=⟨[]⟩) (kV17:=.none) (dc17:=.none) (pm17:=(.str q116 547)) (an17:=none) (cd17:=(.ref 274)) (ct17:=.none) (f18:=282) (oc18:=(.type l17)) (od18:=none) (sl18:=⟨[]⟩) (kV18:=.none) (dc18:=.none) (pm18:=(.str q116 547)) (an18:=none) (cd18:=(.ref 281)) (ct18:=.none) (f19:=289) (oc19:=(.type l17)) (od19:=none) (sl19:=⟨[]⟩) (kV19:=.none) (dc19:=.none) (pm19:=(.str q117 570)) (an19:=none) (cd19:=(.ref 288)) (ct19:=.none) (f20:=296) (oc20:=(.type l17)) (od20:=none) (sl20:=⟨[]⟩) (kV20:=.none) (dc20:=.none) (pm20:=(.str q117 570)) (an20:=none) (cd20:=(.ref 295)) (ct20:=.none) (f21:=301) (oc21:=(.type l17)) (od21:=none) (sl21:=⟨[]⟩) (kV21:=.none) (dc21:=.none) (pm21:=(.str q117 570)) (an21:=none) (cd21:=(.ref 300)) (ct21:=.none) (f22:=306) (oc22:=(.type l17)) (od22:=none) (sl22:=⟨[]⟩) (kV22:=.none) (dc22:=.none) (pm22:=(.str q119 600)) (an22:=none) (cd22:=(.ref 305)) (ct22:=.none) (f23:=313) (oc23:=(.type l17)) (od23:=none) (sl23:=⟨[]⟩) (kV23:=.none) (dc23:=.none) (pm23:=(.str q119 600)) (an23:=none) (cd23:=(.ref 312)) (ct23:=.none) (f24:=320) (oc24:=(.type l17)) (od24:=none) (sl24:=⟨[]⟩) (kV24:=.none) (dc24:=.none) (pm24:=(.str q119 600)) (an24:=none) (cd24:=(.ref 319)) (ct24:=.none) (f25:=327) (oc25:=(.type l17)) (od25:=none) (sl25:=⟨[]⟩) (kV25:=.none) (dc25:=.none) (pm25:=(.str q119 600)) (an25:=none) (cd25:=(.ref 326)) (ct25:=.none) (f26:=334) (oc26:=(.type l17)) (od26:=none) (sl26:=⟨[]⟩) (kV26:=.none) (dc26:=.none) (pm26:=(.str q119 600)) (an26:=none) (cd26:=(.ref 333)) (ct26:=.none) (f27:=341) (oc27:=(.type l17)) (od27:=none) (sl27:=⟨[]⟩) (kV27:=.none) (dc27:=.none) (pm27:=(.str q119 600)) (an27:=none) (cd27:=(.ref 340)) (ct27:=.none) (f28:=348) (oc28:=(.type l17)) (od28:=none) (sl28:=⟨[]⟩) (kV28:=.none) (dc28:=.none) (pm28:=(.str q119 600)) (an28:=none) (cd28:=(.ref 347)) (ct28:=.none) (f29:=355) (oc29:=(.type l17)) (od29:=none) (sl29:=⟨[]⟩) (kV29:=.none) (dc29:=.none) (pm29:=(.str q119 600)) (an29:=none) (cd29:=(.ref 354)) (ct29:=.none) (f30:=362) (oc30:=(.type l17)) (od30:=none) (sl30:=⟨[]⟩) (kV30:=.none) (dc30:=.none) (pm30:=(.str q125 669)) (an30:=none) (cd30:=(.ref 361)) (ct30:=.none) (f31:=369) (oc31:=(.type l17)) (od31:=none) (sl31:=⟨[]⟩) (kV31:=.none) (dc31:=.none) (pm31:=(.str q125 669)) (an31:=none) (cd31:=(.ref 368)) (ct31:=.none) (f32:=376) (oc32:=(.type l17)) (od32:=none) (sl32:=⟨[]⟩) (kV32:=.none) (dc32:=.none) (pm32:=(.str q125 669)) (an32:=none) (cd32:=(.ref 375)) (ct32:=.none) (f33:=383) (oc33:=(.type l17)) (od33:=none) (sl33:=⟨[]⟩) (kV33:=.none) (dc33:=.none) (pm33:=(.str q125 669)) (an33:=none) (cd33:=(.ref 382)) (ct33:=.none) (f34:=388) (oc34:=(.type l17)) (od34:=none) (sl34:=⟨[]⟩) (kV34:=.none) (dc34:=.none) (pm34:=(.str q125 669)) (an34:=none) (cd34:=(.ref 387)) (ct34:=.none) (f35:=395) (oc35:=(.type l17)) (od35:=none) (sl35:=⟨[]⟩) (kV35:=.none) (dc35:=.none) (pm35:=(.str q125 669)) (an35:=none) (cd35:=(.ref 394)) (ct35:=.none) (f36:=402) (oc36:=(.type l17)) (od36:=none) (sl36:=⟨[]⟩) (kV36:=.none) (dc36:=.none) (pm36:=(.str q125 669)) (an36:=none) (cd36:=(.ref 401)) (ct36:=.none) (f37:=407) (oc37:=(.type l17)) (od37:=none) (sl37:=⟨[]⟩) (kV37:=.none) (dc37:=.none) (pm37:=(.str q125 669)) (an37:=none) (cd37:=(.ref 406)) (ct37:=.none) (f38:=414) (oc38:=(.type l17)) (od38:=none) (sl38:=⟨[]⟩) (kV38:=.none) (dc38:=.none) (pm38:=(.str q72 740)) (an38:=none) (cd38:=(.ref 413)) (ct38:=.none) (f39:=421) (oc39:=(.type l17)) (od39:=none) (sl39:=⟨[]⟩) (kV39:=.none) (dc39:=.none) (pm39:=(.str q72 740)) (an39:=none) (cd39:=(.ref 420)) (ct39:=.none) (f40:=426) (oc40:=(.type l17)) (od40:=none) (sl40:=⟨[]⟩) (kV40:=.none) (dc40:=.none) (pm40:=(.str q72 740)) (an40:=none) (cd40:=(.ref 425)) (ct40:=.none) (f41:=433) (oc41:=(.type l17)) (od41:=none) (sl41:=⟨[]⟩) (kV41:=.none) (dc41:=.none) (pm41:=(.str q72 740)) (an41:=none) (cd41:=(.ref 432)) (ct41:=.none) (f42:=440) (oc42:=(.type l17)) (od42:=none) (sl42:=⟨[]⟩) (kV42:=.none) (dc42:=.none) (pm42:=(.str q72 740)) (an42:=none) (cd42:=(.ref 439)) (ct42:=.none) (f43:=447) (oc43:=(.type l17)) (od43:=none) (sl43:=⟨[]⟩) (kV43:=.none) (dc43:=.none) (pm43:=(.str q72 740)) (an43:=none) (cd43:=(.ref 446)) (ct43:=.none) (f44:=452) (oc44:=(.type l17)) (od44:=none) (sl44:=⟨[]⟩) (kV44:=.none) (dc44:=.none) (pm44:=(.str q72 740)) (an44:=none) (cd44:=(.ref 451)) (ct44:=.none) (f45:=459) (oc45:=(.type l17)) (od45:=none) (sl45:=⟨[]⟩) (kV45:=.none) (dc45:=.none) (pm45:=(.str q72 740)) (an45:=none) (cd45:=(.ref 458)) (ct45:=.none) (f46:=466) (oc46:=(.type l17)) (od46:=none) (sl46:=⟨[]⟩) (kV46:=.none) (dc46:=.none) (pm46:=(.str q72 740)) (an46:=none) (cd46:=(.ref 465)) (ct46:=.none) (f47:=473) (oc47:=(.type l17)) (od47:=none) (sl47:=⟨[]⟩) (kV47:=.none) (dc47:=.none) (pm47:=(.str q72 740)) (an47:=none) (cd47:=(.ref 472)) (ct47:=.none) (f48:=480) (oc48:=(.type l17)) (od48:=none) (sl48:=⟨[]⟩) (kV48:=.none) (dc48:=.none) (pm48:=(.str q72 740)) (an48:=none) (cd48:=(.ref 479)) (ct48:=.none) (f49:=487) (oc49:=(.type l17)) (od49:=none) (sl49:=⟨[]⟩) (kV49:=.none) (dc49:=.none) (pm49:=(.str q72 740)) (an49:=none) (cd49:=(.ref 486)) (ct49:=.none) (f50:=492) (oc50:=(.type l17)) (od50:=none) (sl50:=⟨[]⟩) (kV50:=.none) (dc50:=.none) (pm50:=(.str q72 740)) (an50:=none) (cd50:=(.ref 491)) (ct50:=.none) (t_MOST_HOLES:=452) (t_LEAD_BITS:=385) (t_MOST_HOLES_SIDED:=671) (C_HubError:=24) (C_NoTurn:=37) (C_NoFit:=49) (C_TooWide:=61) (C_NoRing:=73) (C_NoHole:=85) (C_NoWheel:=97) (C_NoNumber:=109) (C_NoQuotient:=121) (C_NoText:=133) (C_NoName:=145) (C_NoRow:=157) KX G hmg ?a0 ?l0 ?c0 ?k0 ?a1 ?l1 ?c1 ?k1 ?a2 ?l2 ?c2 ?k2 ?a3 ?l3 ?c3 ?k3 ?a4 ?l4 ?c4 ?k4 ?a5 ?l5 ?c5 ?k5 ?a6 ?l6 ?c6 ?k6 ?a7 ?l7 ?c7 ?k7 ?a8 ?l8 ?c8 ?k8 ?a9 ?l9 ?c9 ?k9 ?a10 ?l10 ?c10 ?k10 ?a11 ?l11 ?c11 ?k11 ?a12 ?l12 ?c12 ?k12 ?a13 ?l13 ?c13 ?k13 ?a14 ?l14 ?c14 ?k14 ?a15 ?l15 ?c15 ?k15 ?a16 ?l16 ?c16 ?k16 ?a17 ?l17 ?c17 ?k17 ?a18 ?l18 ?c18 ?k18 ?a19 ?l19 ?c19 ?k19 ?a20 ?l20 ?c20 ?k20 ?a21 ?l21 ?c21 ?k21 ?a22 ?l22 ?c22 ?k22 ?a23 ?l23 ?c23 ?k23 ?a24 ?l24 ?c24 ?k24 ?a25 ?l25 ?c25 ?k25 ?a26 ?l26 ?c26 ?k26 ?a27 ?l27 ?c27 ?k27 ?a28 ?l28 ?c28 ?k28 ?a29 ?l29 ?c29 ?k29 ?a30 ?l30 ?c30 ?k30 ?a31 ?l31 ?c31 ?k31 ?a32 ?l32 ?c32 ?k32 ?a33 ?l33 ?c33 ?k33 ?a34 ?l34 ?c34 ?k34 ?a35 ?l35 ?c35 ?k35 ?a36 ?l36 ?c36 ?k36 ?a37 ?l37 ?c37 ?k37 ?a38 ?l38 ?c38 ?k38 ?a39 ?l39 ?c39 ?k39 ?a40 ?l40 ?c40 ?k40 ?a41 ?l41 ?c41 ?k41 ?a42 ?l42 ?c42 ?k42 ?a43 ?l43 ?c43 ?k43 ?a44 ?l44 ?c44 ?k44 ?a45 ?l45 ?c45 ?k45 ?a46 ?l46 ?c46 ?k46 ?a47 ?l47 ?c47 ?k47 ?a48 ?l48 ?c48 ?k48 ?a49 ?l49 ?c49 ?k49 ?a50 ?l50 ?c50 ?k50 ?z0 ?z1 ?z2 ?z3 ?z4 ?z5 ?z6 ?z7 ?z8 ?z9 ?z10 ?z11 ?z12 ?z13 ?z14 ?ag_MOST_HOLES ?ag_LEAD_BITS ?ag_MOST_HOLES_SIDED ?ac_HubError ?ac_NoTurn ?ac_NoFit ?ac_TooWide ?ac_NoRing ?ac_NoHole ?ac_NoWheel ?ac_NoNumber ?ac_NoQuotient ?ac_NoText ?ac_NoName ?ac_NoRow ?f_x_TooWide ?f_m_TooWide_TooWide ?f_m_TooWide_HubError ?f_e_TooWide ?f_i_TooWide_ValueError ?f_j_1 ?f_j_2
 (case a0=>kernel_rfl)
 (case l0=>kernel_rfl)
 (case c0=>kernel_rfl)
 (case k0=>kernel_rfl)
 (case a1=>kernel_rfl)
 (case l1=>kernel_rfl)
 (case c1=>kernel_rfl)
 (case k1=>kernel_rfl)
 (case a2=>kernel_rfl)
 (case l2=>kernel_rfl)
 (case c2=>kernel_rfl)
 (case k2=>kernel_rfl)
 (case a3=>kernel_rfl)
 (case l3=>kernel_rfl)
 (case c3=>kernel_rfl)
 (case k3=>kernel_rfl)
 (case a4=>kernel_rfl)
 (case l4=>kernel_rfl)
 (case c4=>kernel_rfl)
 (case k4=>kernel_rfl)
 (case a5=>kernel_rfl)
 (case l5=>kernel_rfl)
 (case c5=>kernel_rfl)
 (case k5=>kernel_rfl)
 (case a6=>kernel_rfl)
 (case l6=>kernel_rfl)
 (case c6=>kernel_rfl)
 (case k6=>kernel_rfl)
 (case a7=>kernel_rfl)
 (case l7=>kernel_rfl)
 (case c7=>kernel_rfl)
 (case k7=>kernel_rfl)
 (case a8=>kernel_rfl)
 (case l8=>kernel_rfl)
 (case c8=>kernel_rfl)
 (case k8=>kernel_rfl)
 (case a9=>kernel_rfl)
 (case l9=>kernel_rfl)
 (case c9=>kernel_rfl)
 (case k9=>kernel_rfl)
 (case a10=>kernel_rfl)
 (case l10=>kernel_rfl)
 (case c10=>kernel_rfl)
 (case k10=>kernel_rfl)
 (case a11=>kernel_rfl)
 (case l11=>kernel_rfl)
 (case c11=>kernel_rfl)
 (case k11=>kernel_rfl)
 (case a12=>kernel_rfl)
 (case l12=>kernel_rfl)
 (case c12=>kernel_rfl)
 (case k12=>kernel_rfl)
 (case a13=>kernel_rfl)
 (case l13=>kernel_rfl)
 (case c13=>kernel_rfl)
 (case k13=>kernel_rfl)
 (case a14=>kernel_rfl)
 (case l14=>kernel_rfl)
 (case c14=>kernel_rfl)
 (case k14=>kernel_rfl)
 (case a15=>kernel_rfl)
 (case l15=>kernel_rfl)
 (case c15=>kernel_rfl)
 (case k15=>kernel_rfl)
 (case a16=>kernel_rfl)
 (case l16=>kernel_rfl)
 (case c16=>kernel_rfl)
 (case k16=>kernel_rfl)
 (case a17=>kernel_rfl)
 (case l17=>kernel_rfl)
 (case c17=>kernel_rfl)
 (case k17=>kernel_rfl)
 (case a18=>kernel_rfl)
 (case l18=>kernel_rfl)
 (case c18=>kernel_rfl)
 (case k18=>kernel_rfl)
 (case a19=>kernel_rfl)
 (case l19=>kernel_rfl)
 (case c19=>kernel_rfl)
 (case k19=>kernel_rfl)
 (case a20=>kernel_rfl)
 (case l20=>kernel_rfl)
 (case c20=>kernel_rfl)
 (case k20=>kernel_rfl)
 (case a21=>kernel_rfl)
 (case l21=>kernel_rfl)
 (case c21=>kernel_rfl)
 (case k21=>kernel_rfl)
 (case a22=>kernel_rfl)
 (case l22=>kernel_rfl)
 (case c22=>kernel_rfl)
 (case k22=>kernel_rfl)
 (case a23=>kernel_rfl)
 (case l23=>kernel_rfl)
 (case c23=>kernel_rfl)
 (case k23=>kernel_rfl)
 (case a24=>kernel_rfl)
 (case l24=>kernel_rfl)
 (case c24=>kernel_rfl)
 (case k24=>kernel_rfl)
 (case a25=>kernel_rfl)
 (case l25=>kernel_rfl)
 (case c25=>kernel_rfl)
 (case k25=>kernel_rfl)
 (case a26=>kernel_rfl)
 (case l26=>kernel_rfl)
 (case c26=>kernel_rfl)
 (case k26=>kernel_rfl)
 (case a27=>kernel_rfl)
 (case l27=>kernel_rfl)
 (case c27=>kernel_rfl)
 (case k27=>kernel_rfl)
 (case a28=>kernel_rfl)
 (case l28=>kernel_rfl)
 (case c28=>kernel_rfl)
 (case k28=>kernel_rfl)
 (case a29=>kernel_rfl)
 (case l29=>kernel_rfl)
 (case c29=>kernel_rfl)
 (case k29=>kernel_rfl)
 (case a30=>kernel_rfl)
 (case l30=>kernel_rfl)
 (case c30=>kernel_rfl)
 (case k30=>kernel_rfl)
 (case a31=>kernel_rfl)
 (case l31=>kernel_rfl)
 (case c31=>kernel_rfl)
 (case k31=>kernel_rfl)
 (case a32=>kernel_rfl)
 (case l32=>kernel_rfl)
 (case c32=>kernel_rfl)
 (case k32=>kernel_rfl)
 (case a33=>kernel_rfl)
 (case l33=>kernel_rfl)
 (case c33=>kernel_rfl)
 (case k33=>kernel_rfl)
 (case a34=>kernel_rfl)
 (case l34=>kernel_rfl)
 (case c34=>kernel_rfl)
 (case k34=>kernel_rfl)
 (case a35=>kernel_rfl)
 (case l35=>kernel_rfl)
 (case c35=>kernel_rfl)
 (case k35=>kernel_rfl)
 (case a36=>kernel_rfl)
 (case l36=>kernel_rfl)
 (case c36=>kernel_rfl)
 (case k36=>kernel_rfl)
 (case a37=>kernel_rfl)
 (case l37=>kernel_rfl)
 (case c37=>kernel_rfl)
 (case k37=>kernel_rfl)
 (case a38=>kernel_rfl)
 (case l38=>kernel_rfl)
 (case c38=>kernel_rfl)
 (case k38=>kernel_rfl)
 (case a39=>kernel_rfl)
 (case l39=>kernel_rfl)
 (case c39=>kernel_rfl)
 (case k39=>kernel_rfl)
 (case a40=>kernel_rfl)
 (case l40=>kernel_rfl)
 (case c40=>kernel_rfl)
 (case k40=>kernel_rfl)
 (case a41=>kernel_rfl)
 (case l41=>kernel_rfl)
 (case c41=>kernel_rfl)
 (case k41=>kernel_rfl)
 (case a42=>kernel_rfl)
 (case l42=>kernel_rfl)
 (case c42=>kernel_rfl)
 (case k42=>kernel_rfl)
 (case a43=>kernel_rfl)
 (case l43=>kernel_rfl)
 (case c43=>kernel_rfl)
 (case k43=>kernel_rfl)
 (case a44=>kernel_rfl)
 (case l44=>kernel_rfl)
 (case c44=>kernel_rfl)
 (case k44=>kernel_rfl)
 (case a45=>kernel_rfl)
 (case l45=>kernel_rfl)
 (case c45=>kernel_rfl)
 (case k45=>kernel_rfl)
 (case a46=>kernel_rfl)
 (case l46=>kernel_rfl)
 (case c46=>kernel_rfl)
 (case k46=>kernel_rfl)
 (case a47=>kernel_rfl)
 (case l47=>kernel_rfl)
 (case c47=>kernel_rfl)
 (case k47=>kernel_rfl)
 (case a48=>kernel_rfl)
 (case l48=>kernel_rfl)
 (case c48=>kernel_rfl)
 (case k48=>kernel_rfl)
 (case a49=>kernel_rfl)
 (case l49=>kernel_rfl)
 (case c49=>kernel_rfl)
 (case k49=>kernel_rfl)
 (case a50=>kernel_rfl)
 (case l50=>kernel_rfl)
 (case c50=>kernel_rfl)
 (case k50=>kernel_rfl)
 (case z0=>kernel_rfl)
 (case z1=>kernel_rfl)
 (case z2=>kernel_rfl)
 (case z3=>kernel_rfl)
 (case z4=>kernel_rfl)
 (case z5=>kernel_rfl)
 (case z6=>kernel_rfl)
 (case z7=>kernel_rfl)
 (case z8=>kernel_rfl)
 (case z9=>kernel_rfl)
 (case z10=>kernel_rfl)
 (case z11=>kernel_rfl)
 (case z12=>kernel_rfl)
 (case z13=>kernel_rfl)
 (case z14=>kernel_rfl)
 (case ag_MOST_HOLES=>kernel_rfl)
 (case ag_LEAD_BITS=>kernel_rfl)
 (case ag_MOST_HOLES_SIDED=>kernel_rfl)
 (case ac_HubError=>kernel_rfl)
 (case ac_NoTurn=>kernel_rfl)
 (case ac_NoFit=>kernel_rfl)
 (case ac_TooWide=>kernel_rfl)
 (case ac_NoRing=>kernel_rfl)
 (case ac_NoHole=>kernel_rfl)
 (case ac_NoWheel=>kernel_rfl)
 (case ac_NoNumber=>kernel_rfl)
 (case ac_NoQuotient=>kernel_rfl)
 (case ac_NoText=>kernel_rfl)
 (case ac_NoName=>kernel_rfl)
 (case ac_NoRow=>kernel_rfl)
 (case f_x_TooWide=>kernel_rfl)
 (case f_m_TooWide_TooWide=>kernel_rfl)
 (case f_m_TooWide_HubError=>kernel_rfl)
 (case f_e_TooWide=>exact L2.ExcK.mk (by kernel_rfl) (by kernel_rfl) (by kernel_rfl) (by kernel_rfl) (by kernel_rfl) (by kernel_rfl) (by kernel_rfl))
 (case f_i_TooWide_ValueError=>kernel_rfl)
 (case f_j_1=>kernel_rfl)
 (case f_j_2=>kernel_rfl)
#print axioms PySem.Challenge.cw_evenhub_k59_all_sides_holds
