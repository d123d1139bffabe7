import PyProof.Rows.All
import Wide.All
import OpenK.AllK
import Wide.FinOn
import Lean
import PyProof.EqAt
import PyProof.EqKinds
import PyProof.TupleCall
import KE.KMinKey
import PySem.Challenge.RW_evenhub_k95_whole_settings_as_sums
set_option Elab.async false
set_option linter.all false
set_option maxRecDepth 100000
namespace L2
open PySem PySem.Spec PyProof.Rows
abbrev Key:=Sum Int Str
def keyIs:Key→Value→Bool
 | .inl k,v=>Value.isInt k v
 | .inr x,v=>Value.isStrOf x v
def keyH (w:World):Key→Int
 | .inl k=>hashInt k
 | .inr x=>hashStr w x
theorem vW:∀ {k:Key}{v:Value},keyIs k v=true→(∃ i t,k=Sum.inl i∧v=Value.int i t)∨(∃ x t,k=Sum.inr x∧v=Value.str x t)
 | .inl i,v,h=>by
  obtain⟨t,e⟩:=Value.isInt_shape (k:=i) (v:=v) h
  exact .inl ⟨i,t,rfl,e⟩
 | .inr x,v,h=>by
  obtain⟨t,e⟩:=Value.isStrOf_shape (x:=x) (v:=v) h
  exact .inr ⟨x,t,rfl,e⟩
theorem keyIs_int (i:Int)(t:Tok):keyIs (.inl i) (.int i t)=true:=by simp [keyIs,Value.isInt]
theorem keyIs_str (x:Str)(t:Tok):keyIs (.inr x) (.str x t)=true:=by simp [keyIs,Value.isStrOf]
theorem key_ll (a b:Int):decide ((Sum.inl a:Key)=Sum.inl b)=(a == b):=by
 by_cases e:a=b
 ·subst e;simp
 ·have h:¬ (Sum.inl a:Key)=Sum.inl b:=fun q=>e (Sum.inl.inj q)
  rw[decide_eq_false h]
  exact (beq_eq_false_iff_ne.mpr e).symm
theorem key_rr (a b:Str):decide ((Sum.inr a:Key)=Sum.inr b)=decide (a=b):=by
 by_cases e:a=b
 ·subst e;simp
 ·have h:¬ (Sum.inr a:Key)=Sum.inr b:=fun q=>e (Sum.inr.inj q)
  rw[decide_eq_false h,decide_eq_false e]
theorem key_lr (a:Int)(b:Str):decide ((Sum.inl a:Key)=Sum.inr b)=false:=decide_eq_false (fun q=>nomatch q)
theorem key_rl (a:Str)(b:Int):decide ((Sum.inr a:Key)=Sum.inl b)=false:=decide_eq_false (fun q=>nomatch q)
def wZ (prog:Program)(w:World):PySem.KeyKind prog w Key where
 is:=keyIs
 hash:=keyH w
 inj:=fun v a b ha hb=>by
  rcases vW ha with ⟨i,t,rfl,rfl⟩ | ⟨x,t,rfl,rfl⟩
  ·rcases vW hb with ⟨j,u,rfl,e⟩ | ⟨y,u,rfl,e⟩
   ·injection e with e1 _;rw[e1]
   ·exact nomatch e
  ·rcases vW hb with ⟨j,u,rfl,e⟩ | ⟨y,u,rfl,e⟩
   ·exact nomatch e
   ·injection e with e1 _;rw[e1]
 byValue:=fun k v h=>by
  rcases vW h with ⟨i,t,rfl,rfl⟩ | ⟨x,t,rfl,rfl⟩ <;> rfl
 pyHash:=fun hv h=>by
  rcases vW hv with ⟨i,t,rfl,rfl⟩ | ⟨x,t,rfl,rfl⟩
  ·exact wpAny_pyHash_int h
  ·exact wpAny_pyHash_str h
 eqBool:=fun hu hv h=>by
  rcases vW hu with ⟨i,t,rfl,rfl⟩ | ⟨x,t,rfl,rfl⟩
  ·rcases vW hv with ⟨j,u,rfl,rfl⟩ | ⟨y,u,rfl,rfl⟩
   ·rw[key_ll] at h;exact wpAny_eqBool_int h
   ·rw[key_lr] at h;exact SeqAt.EqAt.int_str i t y u _ _ _ _ h
  ·rcases vW hv with ⟨j,u,rfl,rfl⟩ | ⟨y,u,rfl,rfl⟩
   ·rw[key_rl] at h;exact SeqAt.EqAt.str_int x t j u _ _ _ _ h
   ·rw[key_rr] at h;exact wpAny_eqBool_str h
 «strs»:=fun k x t v h=>by
  rcases vW h with ⟨i,u,rfl,e⟩ | ⟨y,u,rfl,e⟩
  ·exact nomatch e
  ·injection e with e1 _
   subst e1
   cases v <;> rfl
theorem mixKind_int (prog:Program)(w:World)(i:Int)(t:Tok):(wZ prog w).is (.inl i) (.int i t)=true:=keyIs_int i t
theorem mixKind_str (prog:Program)(w:World)(x:Str)(t:Tok):(wZ prog w).is (.inr x) (.str x t)=true:=keyIs_str x t
end L2
namespace L2
open PySem PySem.Spec PyProof.Rows
inductive V where
 | non | bl (b:Bool) | int (i:Int) | str (x:Str) | byt (b:Array UInt8) | flt (b:UInt64) | ref (a:Addr) | ty (n:String)
 deriving DecidableEq
def RelV:V→Value→Prop
 | .non,u=>u=Value.none
 | .bl b,u=>u=Value.bool b
 | .int i,u=>∃ t,u=Value.int i t
 | .str x,u=>∃ t,u=Value.str x t
 | .byt b,u=>∃ t,u=Value.bytes b t
 | .flt b,u=>∃ t,u=Value.float b t
 | .ref a,u=>u=Value.ref a
 | .ty n,u=>u=Value.type n
abbrev Vals:List V→List Value→Prop:=Paired RelV
theorem Vals.length {xs:List V}{us:List Value}(r:Vals xs us):xs.length=us.length:=Paired.length r
theorem Vals.get:∀ {xs:List V}{us:List Value}{i:Nat}{x:V},Vals xs us→xs[i]?=some x→∃ u,us[i]?=some u∧RelV x u
 | _,_,_,_,.nil,e=>by simp at e
 | _,_,0,_,.cons r _,e=>by simp at e;subst e;exact⟨_,rfl,r⟩
 | _,_,i+1,x,.cons _ t,e=>by
  obtain⟨u,h1,h2⟩:=Vals.get (i:=i) (x:=x) t (by simpa using e)
  exact⟨u,by simpa using h1,h2⟩
theorem Vals.set {x:V}{u:Value}(r:RelV x u):∀ {xs:List V}{us:List Value}(i:Nat),Vals xs us→Vals (xs.set i x) (us.set i u)
 | _,_,_,.nil=>.nil
 | _,_,0,.cons _ t=>.cons r t
 | _,_,i+1,.cons q t=>.cons q (Vals.set r i t)
theorem Vals.append:∀ {xs ys:List V}{us ws:List Value},Vals xs us→Vals ys ws→Vals (xs ++ ys) (us ++ ws)
 | _,_,_,_,.nil,s=>s
 | _,_,_,_,.cons r t,s=>.cons r (Vals.append t s)
theorem Vals.take:∀ {xs:List V}{us:List Value}(n:Nat),Vals xs us→Vals (xs.take n) (us.take n)
 | _,_,0,_=>.nil
 | _,_,_+1,.nil=>.nil
 | _,_,n+1,.cons r t=>.cons r (Vals.take n t)
theorem Vals.drop:∀ {xs:List V}{us:List Value}(n:Nat),Vals xs us→Vals (xs.drop n) (us.drop n)
 | _,_,0,r=>r
 | _,_,_+1,.nil=>.nil
 | _,_,n+1,.cons _ t=>Vals.drop n t
def RelO:Option V→Option Value→Prop
 | some v,some u=>RelV v u
 | none,none=>True
 | _,_=>False
def KV {κ:Type}:List (κ×V)→List (κ×Value)→Prop:=Paired fun (p:κ×V)(q:κ×Value)=>p.1=q.1∧RelV p.2 q.2
def kV:Key→V
 | .inl i=>.int i
 | .inr x=>.str x
inductive HO where
 /-- a list -/
 | lst (xs:List V)
 /-- a tuple (never changes) -/
 | tup (xs:List V)
 /-- a dict whose keys are ints and texts;one whose keys are tuples of ints and texts (the empty one is both) -/
 | dK (kvs:List (Key×V)) | dT (kvs:List (List Key×V))
 /-- a set of ints: its members,its size -/
 | set (S:Int→Bool)(n:Nat)
 /-- an instance of the class at C,its dict at dx,its attributes -/
 | ins (C dx:Addr)(fs:List (Str×V))
 /-- the dict of the instance at x -/
 | own (x:Addr)
 /-- the dict of an exception -/
 | xd (fs:List (Str×V))
 /-- a bound method,f of x -/
 | met (f x:Addr)
 /-- a range object lo,lo+1,.. below hi -/
 | rng (lo hi:Int)
 /-- a thing that is known to the object (the script;a dict while a loop walks it): read,never written while it is so -/
 | frz (o:Obj)(u:HO)
 /-- a code object's table -/
 | tbl (ps:Array Value)
 /-- any other thing,by what is true of its one object (a def of one's own: SetO a S n:=HO.ext fun h=>..) -/
 | ext (φ:Heap→Prop)
abbrev Hp:=Addr→Option HO
def upd (H:Hp)(a:Addr)(o:HO):Hp:=fun b=>if b=a then some o else H b
theorem zD {H:Hp}{a:Addr}{o:HO}:upd H a o a=some o:=by unfold upd;rw[if_pos rfl]
theorem zL {H:Hp}{a b:Addr}{o:HO}(h:b≠a):upd H a o b=H b:=by unfold upd;rw[if_neg h]
theorem ne_of {H:Hp}{a b:Addr}{o u:HO}(h:H a=some o)(h':H b=some u)(d:o≠u):a≠b:=by
 intro e;subst e;rw[h] at h';exact d (Option.some.inj h')
theorem zJ {H:Hp}{a b:Addr}{o:HO}(h:H a=some o)(h':H b=none):a≠b:=by
 intro e;subst e;rw[h] at h';cases h'
section
variable (P:Program)(w:World)
def wH (H:Hp)(h:Heap)(a:Addr):HO→Prop
 | .lst xs=>xs.length≤sizeLine∧∃ (its:List Value)(n:Nat),Vals xs its∧h.get? a=some { cls:=.type "list",data:=.seq its.toArray n }
 | .tup xs=>xs.length≤sizeLine∧∃ its:List Value,Vals xs its∧IsTup h a its.toArray
 | .dK kvs=>kvs.length≤sizeLine∧(a == sysModules)=false∧∃ vs,KV kvs vs∧h.DictOf (wZ P w) a vs
 | .dT kvs=>kvs.length≤sizeLine∧(a == sysModules)=false∧∃ xs:List (List Key×Addr×Value),
   Paired (fun (p:List Key×V)(q:List Key×Addr×Value)=>p.1=q.1∧H q.2.1=some (.tup (p.1.map kV))∧RelV p.2 q.2.2) kvs xs ∧
   ∃ o es ep,h.get? a=some o∧o.ExactDict∧o.data=.dict es ep∧es.toList=xs.map (entryOfKey (tupleKind (wZ P w)))∧(xs.map (·.1)).Nodup
 | .set S n=>h.SetOf (intKind P w) a S n
 | .ins C dx fs=>H dx=some (.own a)∧fs.length≤1000∧dx≠a∧h.get? a=some (PySem.W.instObj C dx) ∧
   ∃ mA,h.Ns1 dx mA∧(∀ f,RelO (fs.lookup f) (mA f))∧PySem.Within mA (fs.map (·.1))
 | .own _=>∃ o,h.get? a=some o
 | .xd fs=>∃ mA,h.Ns1 a mA∧∀ f,RelO (fs.lookup f) (mA f)
 | .rng lo hi=>∃ t u v,h.get? a=some { cls:=.type "range",data:=.fields #[.int lo t,.int hi u,.int 1 v] }
 | .frz o u=>h.get? a=some o∧wH H h a u
 | .tbl ps=>h.get? a=some { cls:=.none,data:=.fields ps }
 | .met f x=>h.get? a=some (PySem.W.methodObj (.ref f) (.ref x))
 | .ext φ=>φ h∧(∃ o,h.get? a=some o)∧∀ h1 h2:Heap,φ h1→(∀ o,h1.get? a=some o→h2.get? a=some o)→φ h2
def HOk (H:Hp)(h:Heap):Prop:=∀ a o,H a=some o→wH P w H h a o
end
section
variable {P:Program}{w:World}{H H':Hp}{h h':Heap}{a:Addr}{o:HO}
theorem wH.lt (x:wH P w H h a o):a < h.objs.size:=by
 cases o with
 | lst xs=>obtain⟨_,_,_,_,e⟩:=x;exact Heap.lt_size e
 | tup xs=>obtain⟨_,_,_,p⟩:=x;exact p.lt
 | dK kvs=>obtain⟨_,_,_,_,o,_,_,e,_⟩:=x;exact Heap.lt_size e
 | dT kvs=>obtain⟨_,_,_,_,o,_,_,e,_⟩:=x;exact Heap.lt_size e
 | set S n=>obtain⟨o,_,_,_,e,_⟩:=x;exact Heap.lt_size e
 | ins C dx fs=>obtain⟨_,_,_,e,_⟩:=x;exact Heap.lt_size e
 | own y=>obtain⟨_,e⟩:=x;exact Heap.lt_size e
 | xd fs=>obtain⟨_,⟨_,_,_,e,_⟩,_⟩:=x;exact Heap.lt_size e
 | rng lo hi=>obtain⟨_,_,_,e⟩:=x;exact Heap.lt_size e
 | frz ob u=>obtain⟨e,_⟩:=x;exact Heap.lt_size e
 | tbl ps=>exact Heap.lt_size (show h.get? a=some _ from x)
 | met f y=>exact Heap.lt_size (show h.get? a=some _ from x)
 | ext φ=>obtain⟨_,⟨_,e⟩,_⟩:=x;exact Heap.lt_size e
theorem Paired.zEp {α β:Type}{F G:α→β→Prop}:∀ {l₁:List α}{l₂:List β},Paired F l₁ l₂→(∀ a b,F a b→G a b)→Paired G l₁ l₂
 | _,_,.nil,_=>.nil
 | _,_,.cons r t,f=>.cons (f _ _ r) (Paired.zEp t f)
theorem wH.stay (x:wH P w H h a o)(k:∀ b u,(b=a∨H b=some (.own a))→h.get? b=some u→h'.get? b=some u)
  (ho:∀ b,H b=some (.own a)→H' b=some (.own a))(ht:∀ b xs,H b=some (.tup xs)→H' b=some (.tup xs)):wH P w H' h' a o:=by
 induction o with
 | lst xs=>obtain⟨z,its,n,r,e⟩:=x;exact⟨z,its,n,r,k _ _ (.inl rfl) e⟩
 | tup xs=>obtain⟨z,its,r,ob,e,c⟩:=x;exact⟨z,its,r,ob,k _ _ (.inl rfl) e,c⟩
 | dK kvs=>obtain⟨z,y,vs,r,ob,es,ep,e,c⟩:=x;exact⟨z,y,vs,r,ob,es,ep,k _ _ (.inl rfl) e,c⟩
 | dT kvs =>
  obtain⟨z,y,xs,r,ob,es,ep,e,c⟩:=x
  exact⟨z,y,xs,Paired.zEp r fun p q z=>⟨z.1,ht _ _ z.2.1,z.2.2⟩,ob,es,ep,k _ _ (.inl rfl) e,c⟩
 | set S n=>obtain⟨ob,es,ep,t,e,c⟩:=x;exact⟨ob,es,ep,t,k _ _ (.inl rfl) e,c⟩
 | ins C dx fs =>
  obtain⟨d,z,ne,e,mA,⟨od,es,ep,e2,c⟩,r⟩:=x
  exact⟨ho _ d,z,ne,k _ _ (.inl rfl) e,mA,⟨od,es,ep,k _ _ (.inr d) e2,c⟩,r⟩
 | own y=>obtain⟨ob,e⟩:=x;exact⟨ob,k _ _ (.inl rfl) e⟩
 | xd fs=>obtain⟨mA,⟨od,es,ep,e,c⟩,r⟩:=x;exact⟨mA,⟨od,es,ep,k _ _ (.inl rfl) e,c⟩,r⟩
 | rng lo hi=>obtain⟨t,u,v,e⟩:=x;exact⟨t,u,v,k _ _ (.inl rfl) e⟩
 | frz ob u ih=>obtain⟨e,q⟩:=x;exact⟨k _ _ (.inl rfl) e,ih q⟩
 | tbl ps =>
  have e:h.get? a=some { cls:=.none,data:=.fields ps }:=x
  show h'.get? a=some { cls:=.none,data:=.fields ps }
  exact k a _ (.inl rfl) e
 | met f y =>
  have e:h.get? a=some (PySem.W.methodObj (.ref f) (.ref y)):=x
  show h'.get? a=some (PySem.W.methodObj (.ref f) (.ref y))
  exact k a _ (.inl rfl) e
 | ext φ=>obtain⟨p,⟨o,e⟩,st⟩:=x;exact⟨st _ _ p fun o q=>k _ _ (.inl rfl) q,⟨o,k _ _ (.inl rfl) e⟩,st⟩
theorem HOk.lt (x:HOk P w H h)(e:H a=some o):a < h.objs.size:=(x a o e).lt
theorem HOk.fresh (x:HOk P w H h)(e:h.objs.size≤a):H a=none:=by
 cases q:H a with
 | none=>rfl
 | some u=>exact absurd (Nat.lt_of_lt_of_le (x.lt q) e) (Nat.lt_irrefl _)
theorem HOk.kept (x:HOk P w H h)(k:∀ b u,h.get? b=some u→h'.get? b=some u):HOk P w H h':=fun a o e =>
 (x a o e).stay (fun b u _ q=>k b u q) (fun _ q=>q) fun _ _ q=>q
theorem HOk.laid (x:HOk P w H h)(k:∀ b u,h.get? b=some u→h'.get? b=some u)(hp:h.objs.size≤a)(new:wH P w (upd H a o) h' a o):HOk P w (upd H a o) h':=fun b u e=>by
 have hn:=x.fresh hp
 by_cases hb:b=a
 ·subst hb;rw[zD] at e;cases e;exact new
 ·rw[zL hb] at e
  exact (x b u e).stay (fun c v _ q=>k c v q) (fun c q=>by rw[zL (zJ q hn)];exact q) fun c xs q=>by rw[zL (zJ q hn)];exact q
end
def Rd (H:Hp)(a:Addr)(u:HO):Prop:=H a=some u∨∃ o,H a=some (.frz o u)
theorem Rd.of {H:Hp}{a:Addr}{u:HO}(h:H a=some u):Rd H a u:=.inl h
theorem Rd.ok {P:Program}{w:World}{H:Hp}{h:Heap}{a:Addr}{u:HO}(r:Rd H a u)(x:HOk P w H h):wH P w H h a u:=by
 rcases r with r | ⟨o,r⟩
 ·exact x a u r
 ·obtain⟨_,q⟩:=x a _ r
  exact q
def Mut:Option HO→Prop
 | some (.lst _)=>True
 | some (.dK _)=>True
 | some (.dT _)=>True
 | some (.set _ _)=>True
 | some (.ins _ _ _)=>True
 | some (.ext _)=>True
 | _=>False
section
variable {P:Program}{w:World}{H:Hp}{h h':Heap}{x e:Addr}{o':HO}
theorem HOk.write (ok:HOk P w H h)(mu:Mut (H x))(he:e=x∨H e=some (.own x))(k:∀ b u,b≠e→h.get? b=some u→h'.get? b=some u)(heo:∃ u,h'.get? e=some u)
  (new:wH P w (upd H x o') h' x o'):HOk P w (upd H x o') h':=fun b u q=>by
 have nown:∀ c y,H c=some (.own y)→c≠x:=fun c y r z=>by subst z;rw[r] at mu;exact mu
 have ntup:∀ c xs,H c=some (.tup xs)→c≠x:=fun c xs r z=>by subst z;rw[r] at mu;exact mu
 by_cases hb:b=x
 ·subst hb;rw[zD] at q;cases q;exact new
 ·rw[zL hb] at q
  by_cases hbe:b=e
  ·have q':H b=some (.own x):=by
    rcases he with z | z
    ·exact absurd (hbe.trans z) hb
    ·rw[hbe];exact z
   rw[q] at q';cases q'
   obtain⟨v,hv⟩:=heo
   exact⟨v,by rw[hbe];exact hv⟩
  ·refine (ok b u q).stay (fun c v hc r=>k c v ?_ r) (fun c r=>by rw[zL (nown c b r)];exact r) fun c xs r=>by rw[zL (ntup c xs r)];exact r
   rcases hc with rfl | hc
   ·exact hbe
   ·rintro rfl
    rcases he with z | z
    ·exact nown c b hc z
    ·rw[hc] at z;cases z;exact hb rfl
end
structure Un (fs ex:List Addr)(H H':Hp)(h h':Heap):Prop where
 keep:∀ b o,h.get? b=some o→H b=none→b∉fs→b∉ex→h'.get? b=some o
 slot:∀ b o,h.get? b=some o→H b=none→b∈fs→b∉ex→∃ sl,h'.get? b=some { o with slots:=sl }
 free:∀ b o,h.get? b=some o→H b=none→b∉ex→H' b=none
 there:∀ b o,h.get? b=some o→b∉ex→∃ o',h'.get? b=some o'
 tups:∀ b xs,H b=some (.tup xs)→H' b=some (.tup xs)
 frzs:∀ b o u,H b=some (.frz o u)→H' b=some (.frz o u)
 tbls:∀ b ps,H b=some (.tbl ps)→∃ more,H' b=some (.tbl (ps ++ more))
section
variable {fs fs' ex ex':List Addr}{H H1 H2:Hp}{h h1 h2 h':Heap}{a x e:Addr}{o:HO}
theorem Un.any (u:Un fs ex H H1 h h1){b:Addr}{ob:Obj}(q:h.get? b=some ob)(n:H b=none)(hx:b∉ex):∃ sl,h1.get? b=some { ob with slots:=sl }:=by
 by_cases hb:b∈fs
 ·exact u.slot b ob q n hb hx
 ·exact⟨ob.slots,u.keep b ob q n hb hx⟩
theorem Un.trans (a:Un fs ex H H1 h h1)(b:Un fs ex H1 H2 h1 h2):Un fs ex H H2 h h2 where
 keep:=fun c ob q n hc hx=>b.keep c ob (a.keep c ob q n hc hx) (a.free c ob q n hx) hc hx
 slot:=fun c ob q n hc hx=>by
  obtain⟨sl,e1⟩:=a.slot c ob q n hc hx
  obtain⟨sl',e2⟩:=b.slot c _ e1 (a.free c ob q n hx) hc hx
  exact⟨sl',e2⟩
 free:=fun c ob q n hx=>by
  obtain⟨o',e1⟩:=a.there c ob q hx
  exact b.free c o' e1 (a.free c ob q n hx) hx
 there:=fun c ob q hx=>by
  obtain⟨o',e1⟩:=a.there c ob q hx
  exact b.there c o' e1 hx
 tups:=fun c xs q=>b.tups c xs (a.tups c xs q)
 frzs:=fun c ob xs q=>b.frzs c ob xs (a.frzs c ob xs q)
 tbls:=fun c ps q=>by
  obtain⟨m1,e1⟩:=a.tbls c ps q
  obtain⟨m2,e2⟩:=b.tbls c _ e1
  exact⟨m1 ++ m2,by rw[e2,Array.append_assoc]⟩
theorem Un.kept (k:∀ b u,h.get? b=some u→h'.get? b=some u):Un fs ex H H h h' :=
 ⟨fun b ob q _ _ _=>k b ob q,fun b ob q _ _ _=>⟨ob.slots,k b ob q⟩,fun _ _ _ n _=>n,fun b ob q _=>⟨ob,k b ob q⟩,fun _ _ q=>q,fun _ _ _ q=>q,fun _ ps q=>⟨#[],by rw[q];simp⟩⟩
theorem Un.refl:Un fs ex H H h h:=Un.kept fun _ _ q=>q
theorem Un.laid (k:∀ b u,h.get? b=some u→h'.get? b=some u)(hp:h.objs.size≤a)(hn:H a=none):Un fs ex H (upd H a o) h h' where
 keep:=fun b u q _ _ _=>k b u q
 slot:=fun b u q _ _ _=>⟨u.slots,k b u q⟩
 free:=fun b u q n _=>by rw[zL (Nat.ne_of_lt (Nat.lt_of_lt_of_le (Heap.lt_size q) hp))];exact n
 there:=fun b u q _=>⟨u,k b u q⟩
 tups:=fun b xs q=>by rw[zL (zJ q hn)];exact q
 frzs:=fun b u xs q=>by rw[zL (zJ q hn)];exact q
 tbls:=fun b ps q=>⟨#[],by rw[zL (zJ q hn),q];simp⟩
theorem Un.write (mu:Mut (H x))(he:e=x∨H e=some (.own x))(k:∀ b u,b≠e→h.get? b=some u→h'.get? b=some u)(heo:∃ u,h'.get? e=some u):Un fs ex H (upd H x o) h h':=by
 have hx:∀ b,H b=none→b≠x:=fun b n z=>by subst z;rw[n] at mu;exact mu
 have hb:∀ b,H b=none→b≠e:=fun b n z=>by
  subst z
  rcases he with r | r
  ·exact hx b n r
  ·rw[n] at r;cases r
 have hm:∀ b u,H b=some u→¬ Mut (some u)→b≠x:=fun b u q nm z=>by subst z;rw[q] at mu;exact nm mu
 refine⟨fun b u q n _ _=>k b u (hb b n) q,fun b u q n _ _=>⟨u.slots,k b u (hb b n) q⟩,fun b u q n _=>by rw[zL (hx b n)];exact n,fun b u q _=>?_,
  fun b xs q=>by rw[zL (hm b _ q fun z=>z)];exact q,fun b u xs q=>by rw[zL (hm b _ q fun z=>z)];exact q,fun b ps q=>⟨#[],by rw[zL (hm b _ q fun z=>z),q];simp⟩⟩
 by_cases hbe:b=e
 ·subst hbe;exact heo
 ·exact⟨u,k b u hbe q⟩
end
def trk (h:Heap)(H:Hp):List Addr:=(List.range h.objs.size).filter fun a=>(H a).isSome
def hidT (h:Heap)(H:Hp):Heap:=PySem.W.hideAll h (trk h H)
theorem hidT_size (h:Heap)(H:Hp):(hidT h H).objs.size=h.objs.size:=PySem.W.hideAll_size _ _
theorem hidT_get {h:Heap}{H:Hp}{b:Addr}{o:Obj}(e:h.get? b=some o)(n:H b=none):(hidT h H).get? b=some o :=
 PySem.W.hideAll_get _ e fun hm=>by
  have q:(H b).isSome=true:=(List.mem_filter.mp hm).2
  rw[n] at q;simp at q
theorem of_hidT {h:Heap}{H:Hp}{b:Addr}{o:Obj}(e:(hidT h H).get? b=some o):h.get? b=some o∧H b=none:=by
 have e':h.get? b=some o:=PySem.W.of_hideAll (trk h H) e
 refine⟨e',?_⟩
 cases q:H b with
 | none=>rfl
 | some x =>
  have hm:b∈trk h H:=List.mem_filter.mpr ⟨List.mem_range.mpr (Heap.lt_size e'),by simp [q]⟩
  have z:(hidT h H).get? b=none:=PySem.W.hideAll_none (trk h H) hm
  rw[z] at e;cases e
def allNews (g h:Heap)(L:Addr):List (Addr×Obj):=(List.range h.objs.size).filterMap fun a=>if a=L∨(g.get? a).isSome=true then none else (h.get? a).map fun o=>(a,o)
def rest (g h:Heap)(L d:Addr):List (Addr×Obj):=(allNews g h L).filter fun p=>decide (p.1≠d)
end L2
namespace L2
open PySem PySem.Spec PyProof.Rows
structure Mod (K:PySem.W.Frag)(mg:Str→Option Value)(base:Heap):Prop where
 kin:K.In base
 glob:base.Ns mainGlobals mg
 blt:∃ mb,base.Ns builtinsNs mb∧∀ x:Str,x≠"__name__"→mb x=bootBuiltins x
 nolimit:base.NoLimit
structure Cx where
 prog:Program
 w:World
 K:PySem.W.Frag
 mg:Str→Option Value
 base:Heap
 A:Around
 N:List Str
 s₀:Shared
 H₀:Hp
 env:Env
 outer:List Env
 stack:List Env
 ex:List Addr
 fn:Str→Bool
 calm:Bool
 pn:List (Addr×Obj)
 xe:Value→Shared→Prop
def frs (l:List Env):List Addr:=l.filterMap (·.frame)
abbrev Cx.fs (X:Cx):List Addr:=frs X.outer
def Vis (sc:Scope)(x:Str):Prop:=sc.names.lookup x=some .local∨sc.names.lookup x=some .cell∨sc.names.lookup x=some .free
def Loc (sc:Scope)(x:Str):Prop:=sc.names.lookup x=some .local∨sc.names.lookup x=some .cell
def Look (env:Env)(h:Heap)(m:Str→Option Value)(x:Str)(u:Value):Prop :=
 (env.kindOf x=some .local∧m x=some u)∨((env.kindOf x=some .cell∨env.kindOf x=some .free)∧∃ c,env.cells.lookup x=some c∧h.IsCell c (some u))
structure Cx.Ok (X:Cx):Prop where
 mod:Mod X.K X.mg X.base
 kind:X.env.scope.kind=.function
 glob:X.env.globals=mainGlobals
 blt:X.env.builtins=builtinsNs
 above:X.s₀.heap.objs.size≤X.env.locals
 inj:∀ x y c,X.env.cells.lookup x=some c→X.env.cells.lookup y=some c→x=y
 has:∀ x,(X.env.kindOf x=some .cell∨X.env.kindOf x=some .free)→∃ c,X.env.cells.lookup x=some c
 cab:∀ x c,X.fn x=true→X.env.cells.lookup x=some c→X.s₀.heap.objs.size≤c
 hd:X.calm=true→X.A.handled=none
 frames:X.A.frames=some X.stack
 stk:X.stack=X.outer∨(X.stack=X.env::X.outer∧X.env.frame=some X.env.locals)
 exf:∀ b∈X.ex,b≠X.env.locals∧∀ x c,X.env.cells.lookup x=some c→c≠b
 bs:∀ b o,X.base.get? b=some o→X.s₀.heap.get? b=some o∧X.H₀ b=none
 bsz:X.base.objs.size≤X.s₀.heap.objs.size
 noex:∀ b o,X.base.get? b=some o→b∉X.ex
 exfs:∀ b∈X.ex,b∉X.fs
 funs:X.s₀.heap.FunFrames X.base X.outer
 frf:∀ b∈X.fs,X.H₀ b=none
structure Inv (X:Cx)(pins:List (Addr×Obj))(σ:List (Option V))(H:Hp)(s:Shared):Prop where
 ok:X.Ok
 os:s.os=X.s₀.os
 bare:AllBare s.gens
 base:Un X.fs X.ex X.H₀ H X.s₀.heap s.heap
 loc:∃ m,s.heap.Ns X.env.locals m∧∀ (i:Nat)(x:Str)(v:V),X.N[i]?=some x→σ[i]?=some (some v)→Vis X.env.scope x→∃ u,RelV v u∧Look X.env s.heap m x u
 cell:∀ x c,X.env.cells.lookup x=some c→∃ v,s.heap.IsCell c v
 free:H X.env.locals=none
 freeC:∀ x c,X.env.cells.lookup x=some c→H c=none
 pin:∀ p∈X.pn ++ pins,s.heap.get? p.1=some p.2∧H p.1=none∧p.1≠X.env.locals∧p.1∉X.fs∧∀ v,p.2.data≠.cell v
 hok:HOk X.prog X.w H s.heap
 len:σ.length=X.N.length
section
variable {X:Cx}{pins:List (Addr×Obj)}{σ:List (Option V)}{H H':Hp}{s:Shared}{h':Heap}
theorem Cx.Ok.nofr (ok:X.Ok){b:Addr}{o:Obj}(e:X.base.get? b=some o):b∉X.fs:=fun hb=>by
 have:=(ok.funs.mem hb).1
 rw[e] at this;cases this
theorem Inv.bs (I:Inv X pins σ H s):∀ b o,X.base.get? b=some o→s.heap.get? b=some o∧H b=none:=fun b o e =>
 ⟨I.base.keep b o (I.ok.bs b o e).1 (I.ok.bs b o e).2 (I.ok.nofr e) (I.ok.noex b o e),I.base.free b o (I.ok.bs b o e).1 (I.ok.bs b o e).2 (I.ok.noex b o e)⟩
theorem Inv.bk (I:Inv X pins σ H s):∀ b o,X.base.get? b=some o→s.heap.get? b=some o:=fun b o e=>(I.bs b o e).1
theorem Inv.mod (I:Inv X pins σ H s):Mod X.K X.mg X.base:=I.ok.mod
theorem Inv.kIn (I:Inv X pins σ H s):X.K.In s.heap:=I.ok.mod.kin.keeps I.bk
theorem Inv.lt (I:Inv X pins σ H s):X.env.locals < s.heap.objs.size:=let ⟨_,hn,_⟩:=I.loc;hn.lt
theorem Inv.sz (I:Inv X pins σ H s):X.s₀.heap.objs.size≤s.heap.objs.size:=Nat.le_trans I.ok.above (Nat.le_of_lt I.lt)
theorem Inv.nofs (I:Inv X pins σ H s){a:Addr}(h:s.heap.objs.size≤a):a∉X.fs:=fun hb=>by
 obtain⟨_,o,ho,_⟩:=I.ok.funs.mem hb
 exact absurd (Nat.lt_of_lt_of_le (Heap.lt_size ho) (Nat.le_trans I.sz h)) (Nat.lt_irrefl _)
theorem Inv.cne (I:Inv X pins σ H s):∀ x c,X.env.cells.lookup x=some c→c≠X.env.locals:=fun x c e z=>by
 obtain⟨v,o,ho,hd⟩:=I.cell x c e
 obtain⟨m,⟨o',es,ep,ho',hd',_⟩,_⟩:=I.loc
 rw[z,ho'] at ho;cases ho;rw[hd'] at hd;cases hd
theorem Inv.funs (I:Inv X pins σ H s):s.heap.FunFrames X.base X.outer:=by
 have all:∀ (l:List Env),(∀ b∈frs l,b∈X.fs)→X.s₀.heap.FunFrames X.base l→s.heap.FunFrames X.base l:=by
  intro l
  induction l with
  | nil=>intro _ _;trivial
  | cons env r ih =>
   intro hs hl
   obtain⟨hk,⟨L,o,hf,hn,ho,hd⟩,hr⟩:=hl
   have hL:L∈X.fs:=hs L (by unfold frs;rw[List.filterMap_cons,hf];exact List.mem_cons_self)
   obtain⟨sl,e⟩:=I.base.slot L o ho (I.ok.frf L hL) hL fun z=>I.ok.exfs L z hL
   exact⟨hk,⟨L,_,hf,hn,e,hd⟩,ih (fun b hb=>hs b (by unfold frs;rw[List.filterMap_cons,hf];exact List.mem_cons_of_mem _ hb)) hr⟩
 exact all X.outer (fun _ hb=>hb) I.ok.funs
theorem Inv.stack (I:Inv X pins σ H s):s.heap.FunFrames X.base X.stack:=by
 rcases I.ok.stk with e | ⟨e,hf⟩
 ·rw[e];exact I.funs
 ·rw[e]
  obtain⟨m,hn,_⟩:=I.loc
  refine .cons (by rw[I.ok.kind];decide) hf hn ?_ I.funs
  exact Heap.get?_none_of_le (Nat.le_trans I.ok.bsz I.ok.above)
theorem Inv.stkSub (I:Inv X pins σ H s):∀ b∈frs X.stack,b∈X.env.locals::X.fs:=fun b hb=>by
 rcases I.ok.stk with e | ⟨e,hf⟩
 ·rw[e] at hb;exact List.mem_cons_of_mem _ hb
 ·rw[e] at hb
  unfold frs at hb
  rw[List.filterMap_cons,hf] at hb
  exact hb
theorem Inv.stkFree (I:Inv X pins σ H s):∀ b∈frs X.stack,H b=none:=fun b hb=>by
 rcases List.mem_cons.mp (I.stkSub b hb) with e | hb
 ·rw[e];exact I.free
 ·obtain⟨_,o,ho,_⟩:=I.ok.funs.mem hb
  exact I.base.free b o ho (I.ok.frf b hb) fun z=>I.ok.exfs b z hb
theorem Inv.step {g':Array GenState}{t':Nat}{d':Drawn}{ch:List Addr}(I:Inv X pins σ H s)
  (hch:∀ b∈ch,(b∈X.ex∨X.s₀.heap.objs.size≤b)∧b≠X.env.locals∧(∀ x c,X.env.cells.lookup x=some c→c≠b)∧∀ p∈X.pn ++ pins,p.1≠b)
  (keep:∀ b o,b≠X.env.locals→b∉X.fs→b∉ch→s.heap.get? b=some o→H b=none→h'.get? b=some o)
  (slot:∀ b o,b≠X.env.locals→b∈X.fs→b∉ch→s.heap.get? b=some o→H b=none→∃ sl,h'.get? b=some { o with slots:=sl })(free:∀ b o,b∉ch→s.heap.get? b=some o→H b=none→H' b=none)
  (there:∀ b o,b∉ch→s.heap.get? b=some o→∃ o',h'.get? b=some o')
  (tups:∀ b xs,H b=some (.tup xs)→H' b=some (.tup xs))(frzs:∀ b o u,H b=some (.frz o u)→H' b=some (.frz o u))(tbls:∀ b ps,H b=some (.tbl ps)→∃ more,H' b=some (.tbl (ps ++ more)))
  (ns:∀ m,s.heap.Ns X.env.locals m→h'.Ns X.env.locals m)(hok:HOk X.prog X.w H' h')(hg:AllBare g') :
  Inv X pins σ H' { s with heap:=h',gens:=g',drawn:=d',toks:=t' }:=by
 have neL:∀ b o,X.s₀.heap.get? b=some o→b≠X.env.locals:=fun b o e=>Nat.ne_of_lt (Nat.lt_of_lt_of_le (Heap.lt_size e) I.ok.above)
 have neC:∀ b o,X.s₀.heap.get? b=some o→b∉X.ex→b∉ch:=fun b o e hx hb=>by
  rcases (hch b hb).1 with z | z
  ·exact hx z
  ·exact absurd (Nat.lt_of_lt_of_le (Heap.lt_size e) z) (Nat.lt_irrefl _)
 have cellK:∀ x c,X.env.cells.lookup x=some c→∀ v,s.heap.IsCell c v→h'.IsCell c v:=fun x c e v ⟨o,ho,hd⟩=>by
  have nch:c∉ch:=fun z=>(hch c z).2.2.1 x c e rfl
  by_cases hc:c∈X.fs
  ·obtain⟨sl,q⟩:=slot c o (I.cne x c e) hc nch ho (I.freeC x c e)
   exact⟨_,q,hd⟩
  ·exact⟨o,keep c o (I.cne x c e) hc nch ho (I.freeC x c e),hd⟩
 refine⟨I.ok,I.os,hg,⟨fun b o e n hb hx=>?_,fun b o e n hb hx=>?_,fun b o e n hx=>?_,fun b o e hx=>?_,fun b xs e=>tups b xs (I.base.tups b xs e),fun b o xs e=>frzs b o xs (I.base.frzs b o xs e),fun b ps e=>?_⟩,?_,fun x c e=>?_,?_,fun x c e=>?_,fun p hp=>?_,hok,I.len⟩
 ·exact keep b o (neL b o e) hb (neC b o e hx) (I.base.keep b o e n hb hx) (I.base.free b o e n hx)
 ·obtain⟨sl,e1⟩:=I.base.slot b o e n hb hx
  obtain⟨sl',e2⟩:=slot b _ (neL b o e) hb (neC b o e hx) e1 (I.base.free b o e n hx)
  exact⟨sl',e2⟩
 ·obtain⟨o',e1⟩:=I.base.there b o e hx
  exact free b o' (neC b o e hx) e1 (I.base.free b o e n hx)
 ·obtain⟨o',e1⟩:=I.base.there b o e hx
  exact there b o' (neC b o e hx) e1
 ·obtain⟨m1,e1⟩:=I.base.tbls b ps e
  obtain⟨m2,e2⟩:=tbls b _ e1
  exact⟨m1 ++ m2,by rw[e2,Array.append_assoc]⟩
 ·obtain⟨m,hn,hl⟩:=I.loc
  refine⟨m,ns m hn,fun i x v e1 e2 e3=>?_⟩
  obtain⟨u,r,l⟩:=hl i x v e1 e2 e3
  refine⟨u,r,?_⟩
  rcases l with l | ⟨k,c,e,z⟩
  ·exact .inl l
  ·exact .inr ⟨k,c,e,cellK x c e _ z⟩
 ·obtain⟨v,z⟩:=I.cell x c e
  exact⟨v,cellK x c e v z⟩
 ·obtain⟨m,⟨o,_,_,ho,_⟩,_⟩:=I.loc
  exact free _ o (fun z=>(hch _ z).2.1 rfl) ho I.free
 ·obtain⟨v,o,ho,hd⟩:=I.cell x c e
  exact free c o (fun z=>(hch c z).2.2.1 x c e rfl) ho (I.freeC x c e)
 ·obtain⟨e,n,ne,nf,d⟩:=I.pin p hp
  have nch:p.1∉ch:=fun z=>(hch p.1 z).2.2.2 p hp rfl
  exact⟨keep p.1 p.2 ne nf nch e n,free p.1 p.2 nch e n,ne,nf,d⟩
theorem Inv.un {t':Nat}(I:Inv X pins σ H s)(u:Un X.fs [] H H' s.heap h')(hok:HOk X.prog X.w H' h'):Inv X pins σ H' { s with heap:=h',toks:=t' }:=by
 obtain⟨m,⟨o,es,ep,ho,r⟩,_⟩:=id I.loc
 obtain⟨sl,hL⟩:=u.any ho I.free (by simp)
 exact I.step (g':=s.gens) (d':=s.drawn) (ch:=[]) (fun _ z=>nomatch z) (fun b o _ hb _ e n=>u.keep b o e n hb (by simp)) (fun b o _ hb _ e n=>u.slot b o e n hb (by simp)) (fun b o _ e n=>u.free b o e n (by simp)) (fun b o _ e=>u.there b o e (by simp)) u.tups u.frzs u.tbls (fun m' hm=>by
  obtain⟨o',es',ep',ho',r'⟩:=hm
  rw[ho] at ho';cases ho'
  exact⟨_,es',ep',hL,r'⟩) hok I.bare
theorem Inv.call {g':Array GenState}{t':Nat}{d':Drawn}{ch:List Addr}(I:Inv X pins σ H s)(u:Un (frs X.stack) ch H H' s.heap h')(hok:HOk X.prog X.w H' h')(hg:AllBare g')
  (hch:∀ b∈ch,(b∈X.ex∨X.s₀.heap.objs.size≤b)∧b≠X.env.locals∧(∀ x c,X.env.cells.lookup x=some c→c≠b)∧∀ p∈X.pn ++ pins,p.1≠b) :
  Inv X pins σ H' { s with heap:=h',gens:=g',drawn:=d',toks:=t' }:=by
 obtain⟨m,⟨o,es,ep,ho,r⟩,_⟩:=id I.loc
 obtain⟨sl,hL⟩:=u.any ho I.free fun z=>(hch _ z).2.1 rfl
 exact I.step (ch:=ch) hch (fun b o hL hb hc e n=>u.keep b o e n (fun z=>(List.mem_cons.mp (I.stkSub b z)).elim hL hb) hc) (fun b o _ _ hc e n=>u.any e n hc) (fun b o hc e n=>u.free b o e n hc) (fun b o hc e=>u.there b o e hc) u.tups u.frzs u.tbls (fun m' hm=>by
  obtain⟨o',es',ep',ho',r'⟩:=hm
  rw[ho] at ho';cases ho'
  exact⟨_,es',ep',hL,r'⟩) hok hg
theorem Inv.turned {t':Nat}{it:Addr}(I:Inv X pins σ H s)(k:∀ b o,b≠it→s.heap.get? b=some o→h'.get? b=some o)(hn:H it=none)(hL:it≠X.env.locals)
  (h1:it∈X.ex∨X.s₀.heap.objs.size≤it)(h2:∀ x c,X.env.cells.lookup x=some c→c≠it)(h3:∀ p∈X.pn ++ pins,p.1≠it):Inv X pins σ H { s with heap:=h',toks:=t' }:=by
 have nit:∀ b u,H b=some u→b≠it:=fun b u e z=>by rw[z,hn] at e;cases e
 refine I.step (g':=s.gens) (d':=s.drawn) (ch:=[it]) (fun b hb=>?_) (fun b o _ _ hc e _=>k b o (fun z=>hc (by simp [z])) e) (fun b o _ _ hc e _=>⟨o.slots,k b o (fun z=>hc (by simp [z])) e⟩) (fun _ _ _ _ n=>n)
  (fun b o hc e=>⟨o,k b o (fun z=>hc (by simp [z])) e⟩) (fun _ _ e=>e) (fun _ _ _ e=>e) (fun b ps e=>⟨#[],by rw[e];simp⟩) (fun m hm=>?_) (fun b u e=>?_) I.bare
 ·have e:b=it:=by simpa using hb
  subst e
  exact⟨h1,hL,h2,h3⟩
 ·obtain⟨o,es,ep,ho,r⟩:=hm
  exact⟨o,es,ep,k _ o (Ne.symm hL) ho,r⟩
 ·refine (I.hok b u e).stay (fun c v hc q=>k c v ?_ q) (fun _ q=>q) fun _ _ q=>q
  rcases hc with z | z
  ·rw[z];exact nit b u e
  ·exact nit c _ z
theorem Inv.tok (I:Inv X pins σ H s)(t:Nat):Inv X pins σ H { s with toks:=t }:=I.un (h':=s.heap) (t':=t) Un.refl I.hok
theorem Inv.kept {t':Nat}(I:Inv X pins σ H s)(k:∀ b u,s.heap.get? b=some u→h'.get? b=some u):Inv X pins σ H { s with heap:=h',toks:=t' }:=I.un (Un.kept k) (I.hok.kept k)
theorem Inv.laid {a:Addr}{o:HO}{t':Nat}(I:Inv X pins σ H s)(k:∀ b u,s.heap.get? b=some u→h'.get? b=some u)(hp:s.heap.objs.size≤a)(new:wH X.prog X.w (upd H a o) h' a o) :
  Inv X pins σ (upd H a o) { s with heap:=h',toks:=t' }:=I.un (Un.laid k hp (I.hok.fresh hp)) (I.hok.laid k hp new)
theorem Inv.write {x e:Addr}{o:HO}{t':Nat}(I:Inv X pins σ H s)(mu:Mut (H x))(he:e=x∨H e=some (.own x))(k:∀ b u,b≠e→s.heap.get? b=some u→h'.get? b=some u)(heo:∃ u,h'.get? e=some u)
  (new:wH X.prog X.w (upd H x o) h' x o):Inv X pins σ (upd H x o) { s with heap:=h',toks:=t' }:=I.un (Un.write mu he k heo) (I.hok.write mu he k heo new)
theorem Inv.weak {σ':List (Option V)}(I:Inv X pins σ H s)(hl:σ'.length=σ.length)(w:∀ (i:Nat) v,σ'[i]?=some (some v)→σ[i]?=some (some v)):Inv X pins σ' H s :=
 ⟨I.ok,I.os,I.bare,I.base,let ⟨m,hn,hl'⟩:=I.loc;⟨m,hn,fun i x v e1 e2 e3=>hl' i x v e1 (w i v e2) e3⟩,I.cell,I.free,I.freeC,I.pin,I.hok,hl.trans I.len⟩
theorem Inv.zEk {pins':List (Addr×Obj)}(I:Inv X pins σ H s)(h:∀ p∈pins',s.heap.get? p.1=some p.2∧H p.1=none∧p.1≠X.env.locals∧p.1∉X.fs∧∀ v,p.2.data≠.cell v):Inv X pins' σ H s :=
 ⟨I.ok,I.os,I.bare,I.base,I.loc,I.cell,I.free,I.freeC,fun p hp=>(List.mem_append.mp hp).elim (fun z=>I.pin p (List.mem_append_left _ z)) (h p),I.hok,I.len⟩
theorem nodup_ix {N:List Str}(hN:N.Nodup){i j:Nat}{x:Str}(a:N[i]?=some x)(b:N[j]?=some x):i=j:=by
 obtain⟨h1,e1⟩:=List.getElem?_eq_some_iff.mp a
 obtain⟨h2,e2⟩:=List.getElem?_eq_some_iff.mp b
 exact (List.getElem_inj hN).mp (e1.trans e2.symm)
theorem store_ok2 {M:Model}{A:Around}{E:Value→Shared→Prop}{i:Nat}{x:Str}{v:V}{u:Value}{Q:Unit→Shared→Prop}(I:Inv X pins σ H s)(hN:X.N.Nodup)(hi:X.N[i]?=some x)(hx:Loc X.env.scope x)(r:RelV v u)
  (h:∀ s',Inv X pins (σ.set i (some v)) H s'→(∃ a,Heap.SameBut a s.heap s'.heap∧(a=X.env.locals∨X.env.cells.lookup x=some a))→Q () s')(hf:X.fn x=true∨X.env.scope.names.lookup x=some .local:=by first | exact .inl rfl | exact .inr rfl | assumption):wpAny M A (storeName X.env x u) Q E s:=by
 obtain⟨m,hn,hl⟩:=id I.loc
 have hcls:(X.env.scope.kind == .class || (X.env.scope.kind == .module && X.env.locals != X.env.globals))=false:=by rw[I.ok.kind];rfl
 have hiσ:i < σ.length:=by rw[I.len];exact (List.getElem?_eq_some_iff.mp hi).1
 have cne:=I.cne
 have tracked:∀ {a:Addr}{h':Heap},(∃ o,s.heap.get? a=some o∧H a=none)→Heap.SameBut a s.heap h'→HOk X.prog X.w H h':=fun {a h'} ha hs b ob e=>by
  obtain⟨_,_,hfree⟩:=ha
  refine (I.hok b ob e).stay (fun c w' hc q=>(hs.2 c ?_).trans q) (fun _ q=>q) fun _ _ q=>q
  rintro rfl
  rcases hc with rfl | hc
  ·rw[hfree] at e;cases e
  ·rw[hfree] at hc;cases hc
 rcases hx with hk | hk
 ·refine wpAny_storeName_local hk hn (fun h' hn' hs=>?_) hcls
  obtain⟨oL,_,_,hoL,_⟩:=id hn
  refine h _ ⟨I.ok,I.os,I.bare,⟨fun b o e n hb hx=>?_,fun b o e n hb hx=>?_,I.base.free,fun b o e hx=>?_,I.base.tups,I.base.frzs,I.base.tbls⟩,⟨_,hn',fun j y v' e1 e2 e3=>?_⟩,fun y c e=>?_,I.free,I.freeC,fun p hp=>?_,tracked ⟨oL,hoL,I.free⟩ hs,by simpa using I.len⟩ ⟨_,hs,.inl rfl⟩
  ·exact (hs.2 b (Nat.ne_of_lt (Nat.lt_of_lt_of_le (Heap.lt_size e) I.ok.above))).trans (I.base.keep b o e n hb hx)
  ·obtain⟨sl,e1⟩:=I.base.slot b o e n hb hx
   exact⟨sl,(hs.2 b (Nat.ne_of_lt (Nat.lt_of_lt_of_le (Heap.lt_size e) I.ok.above))).trans e1⟩
  ·obtain⟨o',e1⟩:=I.base.there b o e hx
   exact⟨o',(hs.2 b (Nat.ne_of_lt (Nat.lt_of_lt_of_le (Heap.lt_size e) I.ok.above))).trans e1⟩
  ·by_cases hj:j=i
   ·subst hj
    rw[hi] at e1;cases e1
    rw[List.getElem?_set_self hiσ] at e2
    cases e2
    exact⟨u,r,.inl ⟨hk,by simp⟩⟩
   ·rw[List.getElem?_set_ne (Ne.symm hj)] at e2
    obtain⟨u',r',q⟩:=hl j y v' e1 e2 e3
    refine⟨u',r',?_⟩
    rcases q with ⟨k,e⟩ | ⟨k,c,e,z⟩
    ·refine .inl ⟨k,?_⟩
     have:y≠x:=fun e=>hj (nodup_ix hN e1 (e▸hi))
     simp [this,e]
    ·exact .inr ⟨k,c,e,z.sameBut hs (cne y c e)⟩
  ·obtain⟨w',z⟩:=I.cell y c e
   exact⟨w',z.sameBut hs (cne y c e)⟩
  ·obtain⟨e,n,ne,nf,d⟩:=I.pin p hp
   exact⟨(hs.2 p.1 ne).trans e,n,ne,nf,d⟩
 ·have hfn:X.fn x=true:=by
   rcases hf with z | z
   ·exact z
   ·rw[z] at hk;cases hk
  obtain⟨c,hc⟩:=I.ok.has x (.inl hk)
  obtain⟨w',z⟩:=I.cell x c hc
  refine wpAny_storeName_cell I.ok.kind hk hc z (fun h' hc' hs=>?_)
  obtain⟨oc,hoc,hocd⟩:=id z
  refine h { s with heap:=h' } ⟨I.ok,I.os,I.bare,⟨fun b o e n hb hx=>?_,fun b o e n hb hx=>?_,I.base.free,fun b o e hx=>?_,I.base.tups,I.base.frzs,I.base.tbls⟩,⟨m,hn.sameBut hs (Ne.symm (cne x c hc)),fun j y v' e1 e2 e3=>?_⟩,fun y c' e=>?_,I.free,I.freeC,fun p hp=>?_,tracked ⟨oc,hoc,I.freeC x c hc⟩ hs,by simpa using I.len⟩ ⟨c,hs,.inr hc⟩
  ·exact (hs.2 b (Nat.ne_of_lt (Nat.lt_of_lt_of_le (Heap.lt_size e) (I.ok.cab x c hfn hc)))).trans (I.base.keep b o e n hb hx)
  ·obtain⟨sl,e1⟩:=I.base.slot b o e n hb hx
   exact⟨sl,(hs.2 b (Nat.ne_of_lt (Nat.lt_of_lt_of_le (Heap.lt_size e) (I.ok.cab x c hfn hc)))).trans e1⟩
  ·obtain⟨o',e1⟩:=I.base.there b o e hx
   exact⟨o',(hs.2 b (Nat.ne_of_lt (Nat.lt_of_lt_of_le (Heap.lt_size e) (I.ok.cab x c hfn hc)))).trans e1⟩
  ·by_cases hj:j=i
   ·subst hj
    rw[hi] at e1;cases e1
    rw[List.getElem?_set_self hiσ] at e2
    cases e2
    exact⟨u,r,.inr ⟨.inl hk,c,hc,hc'⟩⟩
   ·rw[List.getElem?_set_ne (Ne.symm hj)] at e2
    obtain⟨u',r',q⟩:=hl j y v' e1 e2 e3
    refine⟨u',r',?_⟩
    rcases q with q | ⟨k,c',e,z'⟩
    ·exact .inl q
    ·refine .inr ⟨k,c',e,z'.sameBut hs ?_⟩
     rintro rfl
     exact hj (nodup_ix hN e1 (I.ok.inj _ _ _ e hc▸hi))
  ·by_cases hcc:c'=c
   ·subst hcc;exact⟨_,hc'⟩
   ·obtain⟨w2,z2⟩:=I.cell y c' e
    exact⟨w2,z2.sameBut hs hcc⟩
  ·obtain⟨e,n,ne,nf,d⟩:=I.pin p hp
   refine⟨(hs.2 p.1 ?_).trans e,n,ne,nf,d⟩
   intro q
   rw[q,hoc] at e
   have q':oc=p.2:=Option.some.inj e
   exact d w' (by rw[← q'];exact hocd)
theorem store_ok {M:Model}{A:Around}{E:Value→Shared→Prop}{i:Nat}{x:Str}{v:V}{u:Value}{Q:Unit→Shared→Prop}(I:Inv X pins σ H s)(hN:X.N.Nodup)(hi:X.N[i]?=some x)(hx:Loc X.env.scope x)(r:RelV v u)
  (h:∀ s',Inv X pins (σ.set i (some v)) H s'→Q () s')(hf:X.fn x=true∨X.env.scope.names.lookup x=some .local:=by first | exact .inl rfl | exact .inr rfl | assumption):wpAny M A (storeName X.env x u) Q E s :=
 store_ok2 I hN hi hx r (fun s' I' _=>h s' I') hf
theorem Inv.call' {s':Shared}{ch:List Addr}(I:Inv X pins σ H s)(ho:s'.os=s.os)(u:Un (frs X.stack) ch H H' s.heap s'.heap)(hok:HOk X.prog X.w H' s'.heap)(hg:AllBare s'.gens)
  (hch:∀ b∈ch,(b∈X.ex∨X.s₀.heap.objs.size≤b)∧b≠X.env.locals∧(∀ x c,X.env.cells.lookup x=some c→c≠b)∧∀ p∈X.pn ++ pins,p.1≠b):Inv X pins σ H' s':=by
 obtain⟨h',g',d',t',o'⟩:=s'
 have e:o'=s.os:=ho
 subst e
 exact I.call (g':=g') (t':=t') (d':=d') u hok hg hch
end
abbrev XK:=Value→Option Addr→Hp→Prop
abbrev St:=List (Option V)
abbrev VK:=V→Hp→Prop
abbrev TE:=St→Hp→VK→Prop
abbrev TT:=St→Hp→(Bool→Hp→Prop)→Prop
abbrev TA:=St→Hp→(List V→Hp→Prop)→Prop
structure Ends where
 nx:St→Hp→Prop
 rt:VK
 bk:St→Hp→Prop:=fun _ _=>False
 ct:St→Hp→Prop:=fun _ _=>False
abbrev TS:=Ends→St→Hp→Prop
def EP (X:Cx)(pins:List (Addr×Obj))(σ:St)(Q:VK)(u:Value)(s':Shared):Prop:=∃ v H',Inv X pins σ H' s'∧RelV v u∧Q v H'
def TP (X:Cx)(pins:List (Addr×Obj))(σ:St)(Q:Bool→Hp→Prop)(b:Bool)(s':Shared):Prop:=∃ H',Inv X pins σ H' s'∧Q b H'
def AP (X:Cx)(pins:List (Addr×Obj))(σ:St)(Q:List V→Hp→Prop)(us:List Value)(s':Shared):Prop:=∃ vs H',Inv X pins σ H' s'∧Vals vs us∧Q vs H'
def SP (X:Cx)(pins:List (Addr×Obj))(D:Ends)(f:Flow)(s':Shared):Prop :=
 match f with
 | .next=>∃ σ' H',Inv X pins σ' H' s'∧D.nx σ' H'
 | .brk=>∃ σ' H',Inv X pins σ' H' s'∧D.bk σ' H'
 | .cont=>∃ σ' H',Inv X pins σ' H' s'∧D.ct σ' H'
 | .ret u=>∃ v σ' H',Inv X pins σ' H' s'∧RelV v u∧D.rt v H'
def PE (X:Cx)(e:Expr)(t:TE):Prop :=
 ∀ (pins:List (Addr×Obj))(s:Shared)(σ:St)(H:Hp)(Q:VK),Inv X pins σ H s→t σ H Q→wpAny (model X.prog X.w) X.A (eval e X.env) (EP X pins σ Q) X.xe s
def PT (X:Cx)(e:Expr)(t:TT):Prop :=
 ∀ (pins:List (Addr×Obj))(s:Shared)(σ:St)(H:Hp)(Q:Bool→Hp→Prop),Inv X pins σ H s→t σ H Q→wpAny (model X.prog X.w) X.A (isTrue e X.env (eval e X.env)) (TP X pins σ Q) X.xe s
def PW (X:Cx)(e:Expr)(t:TT):Prop :=
 ∀ (whole:Sem Value)(pins:List (Addr×Obj))(s:Shared)(σ:St)(H:Hp)(Q:Bool→Hp→Prop),Inv X pins σ H s→t σ H Q→wpAny (model X.prog X.w) X.A (isTrue e X.env whole) (TP X pins σ Q) X.xe s
theorem PW.pt {X:Cx}{e:Expr}{t:TT}(h:PW X e t):PT X e t:=h _
def PA (X:Cx)(es:List Expr)(t:TA):Prop :=
 ∀ (pos:Pos)(pins:List (Addr×Obj))(s:Shared)(σ:St)(H:Hp)(Q:List V→Hp→Prop),Inv X pins σ H s→t σ H Q→wpAny (model X.prog X.w) X.A (spliced (backTo pos (starEach es X.env))) (AP X pins σ Q) X.xe s
def PS (X:Cx)(st:Stmt)(t:TS):Prop :=
 ∀ (pins:List (Addr×Obj))(s:Shared)(σ:St)(H:Hp)(D:Ends),Inv X pins σ H s→t D σ H→wpAny (model X.prog X.w) X.A (exec st X.env) (SP X pins D) X.xe s
def PSs (X:Cx)(st:List Stmt)(t:TS):Prop :=
 ∀ (pins:List (Addr×Obj))(s:Shared)(σ:St)(H:Hp)(D:Ends),Inv X pins σ H s→t D σ H→wpAny (model X.prog X.w) X.A (execs st X.env) (SP X pins D) X.xe s
theorem thn {α:Type}{t:Sem α}{Q Q':α→Shared→Prop}{M:Model}{A:Around}{E:Value→Shared→Prop}{s:Shared}(h:wpAny M A t Q E s)(hQ:∀ a s,Q a s→Q' a s):wpAny M A t Q' E s:=wpAny_mono h hQ fun _ _ x=>x
end L2
namespace L2
open PySem PySem.Spec PyProof.Rows
section
variable {X:Cx}
def tVar (i:Nat):TE:=fun σ H Q=>∃ v,σ[i]?=some (some v)∧Q v H
def tC (v:V):TE:=fun _ H Q=>Q v H
theorem pe_var {i:Nat}{x:Str}{pos:Pos}(hN:X.N[i]?=some x)(hv:Vis X.env.scope x)(hd:(x == ("__debug__":Str))=false:=by decide)(hcd:(x == ("__classdict__":Str))=false:=by decide):PE X (.Name x pos) (tVar i):=by
 intro pins s σ H Q I h
 obtain⟨v,e,h⟩:=h
 obtain⟨m,hn,hl⟩:=I.loc
 obtain⟨u,r,l⟩:=hl i x v hN e hv
 have fin:EP X pins σ Q u s:=⟨v,H,I,r,h⟩
 rcases l with ⟨hk,hm⟩ | ⟨hk,c,hc,hcell⟩
 ·exact wpAny_Name (wpAny_loadName_local I.ok.kind hk hn hm fin) hd
 ·rcases hk with hk | hk
  ·exact wpAny_Name (wpAny_loadName_cell I.ok.kind hk hc hcell fin) hd
  ·exact wpAny_Name (wpAny_loadName_free I.ok.kind hk hc hcell fin hcd) hd
theorem zG {i j pos}:PE X (.Constant (.int i) j pos) (tC (.int i)):=fun _ _ _ H _ I h=>wpAny_Constant_int ⟨.int i,H,I.tok _,⟨_,rfl⟩,h⟩
theorem pe_bl {b j pos}:PE X (.Constant (.bool b) j pos) (tC (.bl b)):=fun _ _ _ H _ I h=>Constant_bool ⟨.bl b,H,I,rfl,h⟩
theorem jL {j pos}:PE X (.Constant .none j pos) (tC .non):=fun _ _ _ H _ I h=>Constant_none ⟨.non,H,I,rfl,h⟩
def Gl (X:Cx)(x:Str):Prop:=X.env.kindOf x=some .globalImplicit
theorem ld_glob {E:Value→Shared→Prop}{pins:List (Addr×Obj)}{s:Shared}{σ:St}{H:Hp}{x:Str}{u:Value}{pos:Pos}{Q:Value→Shared→Prop}(I:Inv X pins σ H s)(hg:Gl X x)(hm:X.mg x=some u)(h:Q u s)
  (hd:(x == ("__debug__":Str))=false:=by decide):wpAny (model X.prog X.w) X.A (eval (.Name x pos) X.env) Q E s :=
 Calls.Name_function_global I.ok.kind hg (Calls.loadGlobal_global (by rw[I.ok.glob];exact I.mod.glob.keeps I.bk) hm h) hd
theorem jT {E:Value→Shared→Prop}{pins:List (Addr×Obj)}{s:Shared}{σ:St}{H:Hp}{x:Str}{u:Value}{pos:Pos}{Q:Value→Shared→Prop}(I:Inv X pins σ H s)(hg:Gl X x)(hm:X.mg x=none)(hv:bootBuiltins x=some u)(h:Q u s)
  (hn:x≠"__name__":=by decide)(hd:(x == ("__debug__":Str))=false:=by decide):wpAny (model X.prog X.w) X.A (eval (.Name x pos) X.env) Q E s:=by
 obtain⟨mb,h1,h2⟩:=I.mod.blt
 exact Calls.Name_function_global I.ok.kind hg (Calls.loadGlobal_builtin (by rw[I.ok.glob];exact I.mod.glob.keeps I.bk) hm (by rw[I.ok.blt];exact h1.keeps I.bk) ((h2 x hn).trans hv) h) hd
theorem pe_glob {x:Str}{v:V}{u:Value}{pos:Pos}(hg:Gl X x)(hm:X.mg x=some u)(r:RelV v u)(hd:(x == ("__debug__":Str))=false:=by decide):PE X (.Name x pos) (tC v) :=
 fun _ _ _ H _ I h=>ld_glob I hg hm ⟨v,H,I,r,h⟩ hd
theorem zEb {x:Str}{v:V}{u:Value}{pos:Pos}(hg:Gl X x)(hm:X.mg x=none)(hv:bootBuiltins x=some u)(r:RelV v u)(hn:x≠"__name__":=by decide)(hd:(x == ("__debug__":Str))=false:=by decide):PE X (.Name x pos) (tC v) :=
 fun _ _ _ H _ I h=>jT I hg hm hv ⟨v,H,I,r,h⟩ hn hd
variable {a b:Expr}{ta tb:TE}{pos:Pos}
def tB (t:TE):TT:=fun σ H Q=>t σ H fun x H1=>∃ c,x=.bl c∧Q c H1
theorem zCa {e:Expr}{t:TE}(h:PE X e t)(he:∀ whole,isTrue e X.env whole=(do let v ← whole;standAt e.pos;holding [v] (truthy v)):=by intro _;rfl):PT X e (tB t):=by
 intro pins s σ H Q I hw
 refine isTrue_plain (thn (h pins s σ H _ I hw) fun v s1 ⟨x,H1,I1,r1,q1⟩=>?_) (he _)
 obtain⟨d,rfl,q⟩:=q1
 cases r1
 exact wpAny_truthy_bool ⟨H1,I1,q⟩
variable {tA tB':TT}{rest:List Expr}
def tAnd (t u:TT):TT:=fun σ H Q=>t σ H fun c H1=>if c=true then u σ H1 Q else Q false H1
def tOr (t u:TT):TT:=fun σ H Q=>t σ H fun c H1=>if c=true then Q true H1 else u σ H1 Q
def tNot (t:TT):TT:=fun σ H Q=>t σ H fun c H1=>Q (!c) H1
theorem pw_and1 (ha:PT X a tA):PW X (.BoolOp .And [a] pos) tA:=by
 intro wh pins s σ H Q I h
 refine isTrue_and (thn (ha pins s σ H Q I h) fun c s1 e=>?_)
 cases c with
 | true=>exact isTrue_and_nil e
 | false=>exact e
theorem zCv (ha:PT X a tA):PW X (.BoolOp .Or [a] pos) tA:=by
 intro wh pins s σ H Q I h
 refine isTrue_or (thn (ha pins s σ H Q I h) fun c s1 e=>?_)
 cases c with
 | false=>exact isTrue_or_nil e
 | true=>exact e
theorem pw_and (ha:PT X a tA)(hb:PW X (.BoolOp .And (b::rest) pos) tB'):PW X (.BoolOp .And (a::b::rest) pos) (tAnd tA tB'):=by
 intro wh pins s σ H Q I h
 refine isTrue_and (thn (ha pins s σ H _ I h) fun c s1 ⟨H1,I1,q1⟩=>?_)
 cases c with
 | true=>exact hb wh pins s1 σ H1 Q I1 q1
 | false=>exact⟨H1,I1,q1⟩
theorem zCp (ha:PT X a tA)(hb:PW X (.BoolOp .Or (b::rest) pos) tB'):PW X (.BoolOp .Or (a::b::rest) pos) (tOr tA tB'):=by
 intro wh pins s σ H Q I h
 refine isTrue_or (thn (ha pins s σ H _ I h) fun c s1 ⟨H1,I1,q1⟩=>?_)
 cases c with
 | true=>exact⟨H1,I1,q1⟩
 | false=>exact hb wh pins s1 σ H1 Q I1 q1
theorem zCb (ha:PT X a tA):PT X (.UnaryOp .Not a pos) (tNot tA):=by
 intro pins s σ H Q I h
 exact isTrue_not (ha pins s σ H (fun c H1=>Q (!c) H1) I h)
def tAndV (ta tb:TE):TE:=fun σ H Q=>ta σ H fun x H1=>∃ c,x=.bl c∧if c=true then tb σ H1 Q else Q (.bl false) H1
def tNotV (ta:TE):TE:=fun σ H Q=>ta σ H fun x H1=>∃ c,x=.bl c∧Q (.bl (!c)) H1
theorem pe_one {op}{t:TE}(h:PE X a t):PE X (.BoolOp op [a] pos) t:=fun pins s σ H Q I hw=>BoolOp_one (h pins s σ H Q I hw)
theorem pe_and (ha:PE X a ta)(hb:PE X (.BoolOp .And (b::rest) pos) tb):PE X (.BoolOp .And (a::b::rest) pos) (tAndV ta tb):=by
 intro pins s σ H Q I h
 refine BoolOp_and (thn (ha pins s σ H _ I h) fun v s1 ⟨x,H1,I1,r1,q1⟩=>?_)
 obtain⟨c,rfl,q1⟩:=q1
 cases r1
 refine wpAny_truthy_bool ?_
 cases c with
 | true=>exact hb pins s1 σ H1 Q I1 q1
 | false=>exact⟨.bl false,H1,I1,rfl,q1⟩
theorem pe_not (ha:PE X a ta):PE X (.UnaryOp .Not a pos) (tNotV ta):=by
 intro pins s σ H Q I h
 refine UnaryOp_ (thn (ha pins s σ H _ I h) fun v s1 ⟨x,H1,I1,r1,q1⟩=>?_)
 obtain⟨c,rfl,q1⟩:=q1
 cases r1
 exact not_of (wpAny_truthy_bool ⟨.bl (!c),H1,I1,rfl,q1⟩)
def tIf (t:TT)(ta tb:TE):TE:=fun σ H Q=>t σ H fun c H1=>if c=true then ta σ H1 Q else tb σ H1 Q
theorem pe_ifExp {c:Expr}(hc:PT X c tA)(ha:PE X a ta)(hb:PE X b tb):PE X (.IfExp c a b pos) (tIf tA ta tb):=by
 intro pins s σ H Q I h
 refine wpAny_IfExp (thn (hc pins s σ H _ I h) fun d s1 ⟨H1,I1,q1⟩=>?_)
 cases d with
 | true=>exact ha pins s1 σ H1 Q I1 q1
 | false=>exact hb pins s1 σ H1 Q I1 q1
end
end L2
namespace L2
open PySem PySem.Spec PyProof.Rows
def SqL (K:PySem.W.Frag)(H:Hp)(a:Addr)(xs:List V):Prop :=
 Rd H a (.lst xs) ∨
  ∃ (o:Obj)(its:Array Value)(n:Nat),K.lookup a=some o∧o.cls=.type "list"∧o.dict=none∧o.data=.seq its n∧its.size≤sizeLine∧Vals xs its.toList
def SqT (K:PySem.W.Frag)(H:Hp)(a:Addr)(xs:List V):Prop :=
 Rd H a (.tup xs) ∨
  ∃ (o:Obj)(its:Array Value)(n:Nat),K.lookup a=some o∧o.cls=.type "tuple"∧o.data=.seq its n∧its.size≤sizeLine∧Vals xs its.toList
def absV:Value→Option V
 | .none=>some .non
 | .bool b=>some (.bl b)
 | .int i _=>some (.int i)
 | .str x _=>some (.str x)
 | .bytes b _=>some (.byt b)
 | .float b _=>some (.flt b)
 | .ref a=>some (.ref a)
 | .type n=>some (.ty n)
 | _=>none
theorem RelV.abs {x:V}{u:Value}(r:RelV x u):absV u=some x:=by
 cases x with
 | non=>cases r;rfl
 | bl _=>cases r;rfl
 | int _=>obtain⟨t,rfl⟩:=r;rfl
 | str _=>obtain⟨t,rfl⟩:=r;rfl
 | byt _=>obtain⟨t,rfl⟩:=r;rfl
 | flt _=>obtain⟨t,rfl⟩:=r;rfl
 | ref _=>cases r;rfl
 | ty _=>cases r;rfl
theorem RelV.inj {x y:V}{u:Value}(r:RelV x u)(q:RelV y u):x=y:=Option.some.inj (r.abs.symm.trans q.abs)
theorem Vals.inj:∀ {xs ys:List V}{us:List Value},Vals xs us→Vals ys us→xs=ys
 | _,_,_,.nil,.nil=>rfl
 | _,_,_,.cons r t,.cons r' t'=>by rw[r.inj r',Vals.inj t t']
section
variable {X:Cx}{pins:List (Addr×Obj)}{σ:St}{H:Hp}{s:Shared}{a:Addr}{xs ys:List V}
theorem SqL.of {K:PySem.W.Frag}(h:H a=some (.lst xs)):SqL K H a xs:=.inl (.inl h)
theorem SqT.of {K:PySem.W.Frag}(h:H a=some (.tup xs)):SqT K H a xs:=.inl (.inl h)
theorem Inv.list (I:Inv X pins σ H s)(h:SqL X.K H a xs):∃ its:List Value,Vals xs its∧PlainL s.heap a its.toArray∧xs.length≤sizeLine:=by
 rcases h with h | ⟨o,its,n,hk,hc,hd,hs,hz,r⟩
 ·obtain⟨z,its,n,r,e⟩:=h.ok I.hok
  exact⟨its,r,⟨_,n,e,rfl,rfl,rfl⟩,z⟩
 ·refine⟨its.toList,r,⟨o,n,I.kIn a o hk,hc,hd,by simpa using hs⟩,?_⟩
  have e:=r.length
  simp only [Array.length_toList] at e
  omega
theorem Inv.tuple (I:Inv X pins σ H s)(h:SqT X.K H a xs):∃ its:List Value,Vals xs its∧IsTup s.heap a its.toArray∧xs.length≤sizeLine:=by
 rcases h with h | ⟨o,its,n,hk,hc,hs,hz,r⟩
 ·obtain⟨z,its,r,p⟩:=h.ok I.hok
  exact⟨its,r,p,z⟩
 ·refine⟨its.toList,r,⟨o,I.kIn a o hk,hc,n,by simpa using hs⟩,?_⟩
  have e:=r.length
  simp only [Array.length_toList] at e
  omega
theorem Inv.zAb (I:Inv X pins σ H s)(h:SqL X.K H a xs)(h':SqL X.K H a ys):xs=ys:=by
 obtain⟨its,r,⟨o,n,e,_,_,d⟩,_⟩:=I.list h
 obtain⟨its',r',⟨o',n',e',_,_,d'⟩,_⟩:=I.list h'
 rw[e] at e';cases e'
 rw[d] at d'
 injection d' with d1 _
 have:its=its':=by simpa using congrArg Array.toList d1
 subst this
 exact r.inj r'
theorem Inv.tuple_inj (I:Inv X pins σ H s)(h:SqT X.K H a xs)(h':SqT X.K H a ys):xs=ys:=by
 obtain⟨its,r,⟨o,e,_,n,d⟩,_⟩:=I.tuple h
 obtain⟨its',r',⟨o',e',_,n',d'⟩,_⟩:=I.tuple h'
 rw[e] at e';cases e'
 rw[d] at d'
 injection d' with d1 _
 have:its=its':=by simpa using congrArg Array.toList d1
 subst this
 exact r.inj r'
end
abbrev Cx.wish (X:Cx)(E:Value→Shared→Prop):Cx:={ X with xe:=E }
abbrev Cx.nox (X:Cx):Cx:=X.wish fun _ _=>False
theorem Cx.Ok.wish {X:Cx}(ok:X.Ok)(E:Value→Shared→Prop):(X.wish E).Ok :=
 ⟨ok.mod,ok.kind,ok.glob,ok.blt,ok.above,ok.inj,ok.has,ok.cab,ok.hd,ok.frames,ok.stk,ok.exf,ok.bs,ok.bsz,ok.noex,ok.exfs,ok.funs,ok.frf⟩
theorem Cx.Ok.zDb {X:Cx}{E:Value→Shared→Prop}(ok:(X.wish E).Ok):X.Ok :=
 ⟨ok.mod,ok.kind,ok.glob,ok.blt,ok.above,ok.inj,ok.has,ok.cab,ok.hd,ok.frames,ok.stk,ok.exf,ok.bs,ok.bsz,ok.noex,ok.exfs,ok.funs,ok.frf⟩
section
variable {X:Cx}{pins:List (Addr×Obj)}{σ:St}{H:Hp}{s:Shared}{E:Value→Shared→Prop}
theorem Inv.wish (I:Inv X pins σ H s)(E:Value→Shared→Prop):Inv (X.wish E) pins σ H s:=⟨I.ok.wish E,I.os,I.bare,I.base,I.loc,I.cell,I.free,I.freeC,I.pin,I.hok,I.len⟩
theorem Inv.zDb (I:Inv (X.wish E) pins σ H s):Inv X pins σ H s:=⟨I.ok.zDb,I.os,I.bare,I.base,I.loc,I.cell,I.free,I.freeC,I.pin,I.hok,I.len⟩
theorem SP.zDb {D:Ends}{f:Flow}{s':Shared}(h:SP (X.wish E) pins D f s'):SP X pins D f s':=by
 cases f with
 | next=>obtain⟨σ',H',I,q⟩:=h;exact⟨σ',H',I.zDb,q⟩
 | brk=>obtain⟨σ',H',I,q⟩:=h;exact⟨σ',H',I.zDb,q⟩
 | cont=>obtain⟨σ',H',I,q⟩:=h;exact⟨σ',H',I.zDb,q⟩
 | ret u=>obtain⟨v,σ',H',I,r,q⟩:=h;exact⟨v,σ',H',I.zDb,r,q⟩
theorem PSs.nox {st:List Stmt}{t:TS}(h:PSs X.nox st t):PSs X st t:=fun pins s σ H D I hw =>
 wpAny_mono (h pins s σ H D (I.wish _) hw) (fun _ _ q=>q.zDb) fun _ _ z=>False.elim z
end
section
variable {X:Cx}{st:Stmt}{rest:List Stmt}{t u:TS}{e:Expr}{te:TE}{pos:Pos}
def tNext:TS:=fun D σ H=>D.nx σ H
def tSeq (t u:TS):TS:=fun D σ H=>t { D with nx:=u D } σ H
theorem zX:PSs X [] tNext:=fun _ _ σ H _ I h=>wpAny_execs_nil ⟨σ,H,I,h⟩
theorem zC (h1:PS X st t)(h2:PSs X rest u):PSs X (st::rest) (tSeq t u):=by
 intro pins s σ H D I h
 refine wpAny_execs_cons (thn (h1 pins s σ H { D with nx:=u D } I h) fun f s1 q=>?_)
 cases f with
 | next =>
  obtain⟨σ',H',I',q⟩:=q
  exact h2 pins s1 σ' H' D I' q
 | ret v=>exact q
 | brk=>exact q
 | cont=>exact q
theorem zI (h1:PS X st t):PSs X [st] t:=by
 intro pins s σ H D I h
 refine wpAny_execs_cons (thn (h1 pins s σ H D I h) fun f s1 q=>?_)
 cases f with
 | next=>exact wpAny_execs_nil q
 | ret v=>exact q
 | brk=>exact q
 | cont=>exact q
theorem Inv.quiet {pins:List (Addr×Obj)}{σ:St}{H:Hp}{s:Shared}(I:Inv X pins σ H s):interactive X.env=false:=by simp [interactive,I.ok.kind]
def tDrop (te:TE):TS:=fun D σ H=>te σ H fun _ H1=>D.nx σ H1
theorem jK (he:PE X e te)(hs:swapsWith e none pos.line X.env=pure false:=by rfl):PS X (.Expr e pos) (tDrop te):=by
 intro pins s σ H D I h
 exact wpAny_Expr_any (thn (he pins s σ H _ I h) fun v s1 ⟨x,H1,I1,r1,q1⟩=>⟨σ,H1,I1,q1⟩) I.quiet hs
def tRet (te:TE):TS:=fun D σ H=>te σ H D.rt
theorem zT (he:PE X e te):PS X (.Return (some e) pos) (tRet te):=by
 intro pins s σ H D I h
 exact wpAny_Return_some (thn (he pins s σ H _ I h) fun v s1 ⟨x,H1,I1,r1,q1⟩=>⟨x,σ,H1,I1,r1,q1⟩)
def tIfS (c:TT)(t u:TS):TS:=fun D σ H=>c σ H fun b H1=>if b=true then t D σ H1 else u D σ H1
theorem vL {c:Expr}{a b:List Stmt}{tc:TT}(hc:PT X c tc)(ha:PSs X a t)(hb:PSs X b u):PS X (.If c a b pos) (tIfS tc t u):=by
 intro pins s σ H D I h
 refine wpAny_If (thn (hc pins s σ H _ I h) fun d s1 ⟨H1,I1,q1⟩=>?_)
 cases d with
 | true=>exact ha pins s1 σ H1 D I1 q1
 | false=>exact hb pins s1 σ H1 D I1 q1
def tNever:TS:=fun _ _ _=>False
theorem jS:PS X st tNever:=fun _ _ _ _ _ _ h=>h.elim
end
abbrev TG:=V→St→Hp→(St→Hp→Prop)→Prop
abbrev TGs:=List V→St→Hp→(St→Hp→Prop)→Prop
def PG (X:Cx)(target:Expr)(t:TG):Prop :=
 ∀ (pins:List (Addr×Obj))(s:Shared)(σ:St)(H:Hp)(v:V)(u:Value)(Q:St→Hp→Prop),Inv X pins σ H s→RelV v u→t v σ H Q →
  wpAny (model X.prog X.w) X.A (assign target X.env u) (fun _ s'=>∃ σ' H',Inv X pins σ' H' s'∧Q σ' H') X.xe s
def PGs (X:Cx)(ts:List Expr)(t:TGs):Prop :=
 ∀ (pins:List (Addr×Obj))(s:Shared)(σ:St)(H:Hp)(vs:List V)(us:List Value)(Q:St→Hp→Prop),Inv X pins σ H s→Vals vs us→t vs σ H Q →
  wpAny (model X.prog X.w) X.A (assignInOrder ((assignEach ts X.env).map (·.2)) us) (fun _ s'=>∃ σ' H',Inv X pins σ' H' s'∧Q σ' H') X.xe s
abbrev TSet:=V→V→V→Hp→(Hp→Prop)→Prop
def PSet (X:Cx)(t:TSet):Prop :=
 ∀ (pins:List (Addr×Obj))(s:Shared)(σ:St)(H:Hp)(o i v:V)(ov iv u:Value)(Q:Hp→Prop),Inv X pins σ H s→RelV o ov→RelV i iv→RelV v u→t o i v H Q →
  wpAny (model X.prog X.w) X.A (setItem ov iv u) (fun _ s'=>∃ H',Inv X pins σ H' s'∧Q H') X.xe s
section
variable {X:Cx}{pos:Pos}
def gName (i:Nat):TG:=fun v σ H Q=>Q (σ.set i (some v)) H
theorem zZ {i:Nat}{x:Str}(hN:X.N.Nodup)(hi:X.N[i]?=some x)(hx:Loc X.env.scope x)(hf:X.fn x=true∨X.env.scope.names.lookup x=some .local:=by first | exact .inl rfl | exact .inr rfl | assumption):PG X (.Name x pos) (gName i):=by
 intro pins s σ H v u Q I r h
 exact wpAny_assign_Name (store_ok I hN hi hx r (fun s' I'=>⟨_,H,I',h⟩) hf)
def gNil:TGs:=fun vs σ H Q=>vs=[]∧Q σ H
def gCons (t:TG)(u:TGs):TGs:=fun vs σ H Q=>∃ v r,vs=v::r∧t v σ H fun σ' H'=>u r σ' H' Q
theorem zAp:PGs X [] gNil:=by
 intro pins s σ H vs us Q I r h
 obtain⟨e,h⟩:=h
 subst e
 cases r
 exact assignInOrder_nil ⟨σ,H,I,h⟩
theorem vJ {e:Expr}{es:List Expr}{t:TG}{u:TGs}(h1:PG X e t)(h2:PGs X es u)
  (hs:(assignEach (e::es) X.env).map (·.2)=assign e X.env::(assignEach es X.env).map (·.2):=by rfl):PGs X (e::es) (gCons t u):=by
 intro pins s σ H vs us Q I r h
 obtain⟨v,vr,e1,h⟩:=h
 subst e1
 cases r with
 | cons r rr =>
  rw[hs]
  refine assignInOrder_cons (thn (h1 pins s σ H _ _ _ I r h) fun _ s1 ⟨σ1,H1,I1,q1⟩=>?_)
  exact h2 pins s1 σ1 H1 _ _ Q I1 rr q1
def gTup (K:PySem.W.Frag)(n:Nat)(t:TGs):TG:=fun v σ H Q=>∃ a xs,v=.ref a∧SqT K H a xs∧xs.length=n∧t xs σ H Q
theorem zDa {es:List Expr}{k:Nat}{t:TGs}{n:Nat}(hc:X.calm=true)(h:PGs X es t)
  (hn:(assignEach es X.env).length=n:=by rfl)(hst:(assignEach es X.env).findIdx? (·.1)=none:=by rfl):PG X (.Tuple es k pos) (gTup X.K n t):=by
 intro pins s σ H v u Q I r hw
 obtain⟨a,xs,e1,hq,hl,hw⟩:=hw
 subst e1
 cases r
 obtain⟨its,rv,ht,hz⟩:=I.tuple hq
 refine assign_Tuple_tuple (I.ok.hd hc) ht (by simp [hn,← hl,rv.length]) hst fun h' hx=>?_
 have I1:Inv X pins σ H { s with heap:=h' }:=I.kept (t':=s.toks) fun b o e=>hx b o (Nat.ne_of_lt (Heap.lt_size e)) e
 exact h pins _ σ H xs _ Q I1 (by simpa using rv) hw
def gSub (to ti:TE)(t:TSet):TG:=fun v σ H Q=>to σ H fun o H1=>ti σ H1 fun i H2=>t o i v H2 fun H3=>Q σ H3
theorem zCu {o i:Expr}{to ti:TE}{t:TSet}(ho:PE X o to)(hi:PE X i ti)(hs:PSet X t)
  (ha:∀ v,assign (.Subscript o i pos) X.env v=(do
   let ov ← holding [v] (eval o X.env)
   let iv ← holding [v,ov] (eval i X.env)
   standAt pos
   holding [v,ov,iv] (setItem ov iv v)
   release [v,ov,iv] []):=by intro _;rfl):PG X (.Subscript o i pos) (gSub to ti t):=by
 intro pins s σ H v u Q I r h
 rw[ha]
 refine wpAny_bind (wpAny_holding (thn (ho pins s σ H _ I h) fun ov s1 ⟨x,H1,I1,r1,q1⟩=>?_))
 refine wpAny_bind (wpAny_holding (thn (hi pins s1 σ H1 _ I1 q1) fun iv s2 ⟨y,H2,I2,r2,q2⟩=>?_))
 refine wpAny_bind (wpAny_standAt (wpAny_bind (wpAny_holding (thn (hs pins s2 σ H2 x y v ov iv u _ I2 r1 r2 r q2) fun _ s3 ⟨H3,I3,q3⟩=>?_))))
 exact wpAny_release ⟨σ,H3,I3,q3⟩
def tAsg (te:TE)(g:TG):TS:=fun D σ H=>te σ H fun x H1=>g x σ H1 D.nx
theorem zDd {tg e:Expr}{te:TE}{g:TG}(he:PE X e te)(hg:PG X tg g)(hs:swapsWithSole [tg] e pos.line X.env=pure false:=by rfl)(hw:swappedStores [tg] e X.env=pure none:=by rfl)
  (h1:(assignEach [tg] X.env).map (·.2)=[assign tg X.env]:=by rfl):PS X (.Assign [tg] e pos) (tAsg te g):=by
 intro pins s σ H D I h
 refine wpAny_Assign_stores (thn (he pins s σ H _ I h) fun v s1 ⟨x,H1,I1,r1,q1⟩=>?_) hs hw
 rw[h1]
 exact thn (hg pins s1 σ H1 x v _ I1 r1 q1) fun _ s2 q=>q
theorem zM {i:Nat}{x:Str}{e:Expr}{te:TE}{pos':Pos}(hN:X.N.Nodup)(hi:X.N[i]?=some x)(hx:Loc X.env.scope x)(he:PE X e te)(hs:swapsWith e (some (.Name x pos')) pos.line X.env=pure false:=by rfl)(hf:X.fn x=true∨X.env.scope.names.lookup x=some .local:=by first | exact .inl rfl | exact .inr rfl | assumption) :
  PS X (.Assign [.Name x pos'] e pos) (tAsg te (gName i)):=by
 intro pins s σ H D I h
 refine wpAny_Assign_Name (thn (he pins s σ H _ I h) fun v s1 ⟨y,H1,I1,r1,q1⟩=>?_) hs
 exact store_ok I1 hN hi hx r1 (fun s2 I2=>⟨_,H1,I2,q1⟩) hf
end
section
variable {X:Cx}{pos:Pos}
def tWhile (c:TT)(tb:TS):TS:=fun D σ H=>∃ W:Nat→St→Hp→Prop,(∃ m,W m σ H)∧∀ m σ H,W m σ H →
 c σ H fun b H1=>if b=true then ∃ N:St→Hp→Prop,(∀ σ' H',N σ' H'→∃ m',m' < m∧W m' σ' H')∧tb { D with nx:=N,ct:=N,bk:=D.nx } σ H1 else D.nx σ H1
theorem zAd {c:Expr}{body:List Stmt}{tc:TT}{tb:TS}(hp:PassesOwn (model X.prog X.w) X.A X.env X.xe)(hc:PT X c tc)(hb:PSs X body tb):PS X (.While c body [] pos) (tWhile tc tb):=by
 intro pins s σ H D I h
 obtain⟨W,⟨m0,w0⟩,turn⟩:=h
 refine wpAny_While (codeAny_whileLoop (fun n s'=>∃ σ' H',Inv X pins σ' H' s'∧W n σ' H') ?_ m0 ⟨σ,H,I,w0⟩)
 rintro n s1 ⟨σ1,H1,I1,w1⟩
 refine wpAny_passesOwn hp (thn (hc pins s1 σ1 H1 _ I1 (turn n σ1 H1 w1)) fun b s2 ⟨H2,I2,q2⟩=>?_)
 cases b with
 | true =>
  obtain⟨N,hN,q2⟩:=q2
  rw[if_pos rfl]
  refine wpAny_passesOwn hp (thn (hb pins s2 σ1 H2 _ I2 q2) fun f s3 q3=>?_)
  cases f with
  | next =>
   obtain⟨σ3,H3,I3,n3⟩:=q3
   obtain⟨m',hm,w3⟩:=hN σ3 H3 n3
   exact⟨m',hm,σ3,H3,I3,w3⟩
  | cont =>
   obtain⟨σ3,H3,I3,n3⟩:=q3
   obtain⟨m',hm,w3⟩:=hN σ3 H3 n3
   exact⟨m',hm,σ3,H3,I3,w3⟩
  | brk=>exact q3
  | ret v=>exact q3
 | false =>
  rw[if_neg Bool.false_ne_true]
  exact wpAny_execs_nil ⟨σ1,H2,I2,q2⟩
end
structure It where
 go:Nat→Hp→Prop
 yld:Nat→Hp→V→Hp→Prop
 stop:Nat→Hp→Prop
def FpOk (X:Cx)(pins:List (Addr×Obj))(H:Hp)(b:Addr):Prop :=
 H b=none∧b≠X.env.locals∧b∉X.fs∧(b∈X.ex∨X.s₀.heap.objs.size≤b)∧(∀ x c,X.env.cells.lookup x=some c→c≠b)∧∀ p∈X.pn ++ pins,p.1≠b
theorem Inv.fpOk {X:Cx}{pins:List (Addr×Obj)}{σ:St}{H H':Hp}{s:Shared}{b:Addr}(I:Inv X pins σ H s)(hb:s.heap.objs.size≤b)(hn:H' b=none):FpOk X pins H' b:=by
 refine⟨hn,Nat.ne_of_gt (Nat.lt_of_lt_of_le I.lt hb),I.nofs hb,.inr (Nat.le_trans I.sz hb),fun x c e z=>?_,fun p hp z=>?_⟩
 ·obtain⟨v,q⟩:=I.cell x c e
  exact absurd (Nat.lt_of_lt_of_le q.lt (by rw[z];exact hb)) (Nat.lt_irrefl _)
 ·exact absurd (Nat.lt_of_lt_of_le (Heap.lt_size (I.pin p hp).1) (by rw[z];exact hb)) (Nat.lt_irrefl _)
structure Turn (P:Program)(w:World)(K:PySem.W.Frag)(tg:Expr)(J:It)(fp:List Addr)(it:Addr)(tn:Nat→Heap→Prop):Prop where
 mem:it∈fp
 obj:∀ i h,tn i h→∀ b∈fp,∃ o,h.get? b=some o∧∀ v,o.data≠.cell v
 keep:∀ i h h',tn i h→(∀ b∈fp,∀ o,h.get? b=some o→h'.get? b=some o)→tn i h'
 item:∀ (X:Cx),X.prog=P→X.w=w→X.K=K→X.calm=true→∀ (i:Nat)(pins:List (Addr×Obj))(s:Shared)(σ:St)(H:Hp)(E:Value→Shared→Prop),Inv X pins σ H s→(∀ b∈fp,FpOk X pins H b)→tn i s.heap→J.go i H →
  wpAny (model P w) X.A (pyNext (.ref it)) (fun r s1=>∃ u,r=some u ∧
   wpAny (model P w) X.A (letOwnedTupleGo tg (.ref it) u) (fun _ s2=>∃ x H',Inv X pins σ H' s2∧RelV x u∧J.yld i H x H'∧tn (i+1) s2.heap∧∀ b∈fp,H' b=none) E s1) E s
 done:∀ (X:Cx),X.prog=P→X.w=w→X.K=K→X.calm=true→∀ (i:Nat)(pins:List (Addr×Obj))(s:Shared)(σ:St)(H:Hp)(E:Value→Shared→Prop),Inv X pins σ H s→(∀ b∈fp,FpOk X pins H b)→tn i s.heap→J.stop i H →
  wpAny (model P w) X.A (pyNext (.ref it)) (fun r s1=>r=none∧Inv X pins σ H s1) E s
 self:∀ (A:Around)(i:Nat)(s:Shared)(Q:Value→Shared→Prop)(E:Value→Shared→Prop),tn i s.heap→Q (.ref it) s→wpAny (model P w) A (pyIter (.ref it)) Q E s
abbrev TI:=St→Hp→(It→Hp→Prop)→Prop
def PIE (X:Cx)(pins:List (Addr×Obj))(σ:St)(tg:Expr)(R:It→Hp→Prop)(itv:Value)(s2:Shared):Prop :=
 ∃ (it:Addr)(fp:List Addr)(tn:Nat→Heap→Prop)(J:It)(H':Hp),itv=.ref it∧Inv X pins σ H' s2∧Turn X.prog X.w X.K tg J fp it tn∧tn 0 s2.heap∧(∀ b∈fp,FpOk X pins H' b)∧R J H'
def PI (X:Cx)(tg iter:Expr)(wi:TI):Prop :=
 ∀ (pins:List (Addr×Obj))(s:Shared)(σ:St)(H:Hp)(R:It→Hp→Prop),Inv X pins σ H s→wi σ H R →
  wpAny (model X.prog X.w) X.A (eval iter X.env) (fun v s1=>wpAny (model X.prog X.w) X.A (pyIter v) (PIE X pins σ tg R) X.xe s1) X.xe s
theorem go_of {M:Model}{A:Around}{E:Value→Shared→Prop}{s:Shared}{tg:Expr}{it:Addr}{u:Value}{o:Obj}{n:String}{vs:Array Value}{Q:Unit→Shared→Prop}(ho:s.heap.get? it=some o)(hc:o.cls=.type n)(hd:o.data=.fields vs)
    (hn:["enumerate","zip","dict_itemiterator","dict_reverseitemiterator","odict_iterator","itertools.zip_longest","itertools.pairwise"].contains n=false)(hQ:Q () s):wpAny M A (letOwnedTupleGo tg (.ref it) u) Q E s:=by
  unfold letOwnedTupleGo
  cases tg <;> first
    | exact wpAny_pure hQ
    | (cases u <;> first
        | exact wpAny_pure hQ
        | (refine wpAny_bind (wpAny_load ho ?_)
           rw[hc,hd]
           show wpAny M A (if (["enumerate","zip","dict_itemiterator","dict_reverseitemiterator","odict_iterator","itertools.zip_longest","itertools.pairwise"].contains n && vs[0]? == some (rawInt _))=true then _ else _) Q E s
           rw[if_neg (by intro h;rw[hn,Bool.false_and] at h;cases h)]
           exact wpAny_pure hQ))
def Itl (K:PySem.W.Frag)(a:Addr):It :=
 ⟨fun i H=>∃ xs x,SqL K H a xs∧xs[i]?=some x,fun i H x H'=>H'=H∧∀ xs,SqL K H a xs→xs[i]?=some x,fun i H=>∃ xs,SqL K H a xs∧xs.length≤i⟩
def Itr (lo:Int)(n:Nat):It:=⟨fun i _=>i < n,fun i H x H'=>H'=H∧x=.int (lo+i),fun i _=>n≤i⟩
theorem turn_list {P:Program}{w:World}{K:PySem.W.Frag}{tg:Expr}(a it:Addr):Turn P w K tg (Itl K a) [it] it (fun i h=>h.IsListIter it a i) where
 mem:=by simp
 obj:=fun i h st b hb=>by
  have e:b=it:=by simpa using hb
  subst e
  obtain⟨o,e,c,d⟩:=st
  exact⟨o,e,fun v z=>by rw[d] at z;cases z⟩
 keep:=fun i h h' st k=>st.at fun o e=>k it (by simp) o e
 item:=by
  intro X hP hw hK hc i pins s σ H E I hf st hg
  subst hP hw hK
  obtain⟨xs,x,hq,hx⟩:=hg
  obtain⟨its,rv,p,hz⟩:=I.list hq
  obtain⟨u,hu,ru⟩:=rv.get hx
  obtain⟨f0,f1,f2,f3,f4,f5⟩:=hf it (by simp)
  refine wpAny_pyNext_list_item st p.isList (x:=u) (by simpa using hu) fun h' st' sb=>?_
  have I1:Inv X pins σ H { s with heap:=h' }:=I.turned (t':=s.toks) (fun b o hb e=>(sb.2 b hb).trans e) f0 f1 f3 f4 f5
  obtain⟨o,e,c,d⟩:=id st'
  exact⟨u,rfl,go_of (s:={ s with heap:=h' }) e c d (by decide) ⟨x,H,I1,ru,⟨rfl,fun ys hy=>by rw[I.zAb hy hq];exact hx⟩,st',fun b hb=>(hf b hb).1⟩⟩
 done:=by
  intro X hP hw hK hc i pins s σ H E I hf st hg
  subst hP hw hK
  obtain⟨xs,hq,hx⟩:=hg
  obtain⟨its,rv,p,hz⟩:=I.list hq
  obtain⟨f0,f1,f2,f3,f4,f5⟩:=hf it (by simp)
  have hl:=rv.length
  exact wpAny_pyNext_list_end (I.ok.hd hc) st p.isList (by simp;omega) fun h' eb=>⟨rfl,I.turned (t':=s.toks) (fun b o hb e=>eb b o hb e) f0 f1 f3 f4 f5⟩
 self:=fun _ _ _ _ _ st h=>wpAny_pyIter_listiter st h
theorem turn_range {P:Program}{w:World}{K:PySem.W.Frag}{tg:Expr}(it:Addr)(lo:Int)(n:Nat):Turn P w K tg (Itr lo n) [it] it (fun i h=>IsRangeIter h it (lo+(i:Nat)*1) ((n:Int)-(i:Nat)) 1) where
 mem:=by simp
 obj:=fun i h st b hb=>by
  have e:b=it:=by simpa using hb
  subst e
  exact⟨_,st,fun v z=>by
   have z':Data.fields _=Data.cell v:=z
   cases z'⟩
 keep:=fun i h h' st k=>k it (by simp) _ st
 item:=by
  intro X hP hw hK hc i pins s σ H E I hf st hg
  subst hP hw hK
  obtain⟨f0,f1,f2,f3,f4,f5⟩:=hf it (by simp)
  have W:=Walks.range (prog:=X.prog) (w:=X.w) (I.ok.hd hc) it lo 1 n
  refine W.item i s _ _ hg st fun v h' tk hv st' kk=>?_
  obtain⟨t,rfl⟩:=hv
  have I1:Inv X pins σ H { s with heap:=h',toks:=tk }:=I.turned (fun b o hb e=>kk b o (by simpa using hb) e) f0 f1 f3 f4 f5
  refine⟨_,rfl,go_of (s:={ s with heap:=h',toks:=tk }) (n:="range_iterator") st' rfl rfl (by decide) ⟨.int (lo+i),H,I1,⟨t,?_⟩,⟨rfl,rfl⟩,st',fun b hb=>(hf b hb).1⟩⟩
  rw[Int.mul_one]
 done:=by
  intro X hP hw hK hc i pins s σ H E I hf st hg
  subst hP hw hK
  obtain⟨f0,f1,f2,f3,f4,f5⟩:=hf it (by simp)
  exact wpAny_pyNext_range_end (I.ok.hd hc) st (by have:n≤i:=hg;omega) fun h' eb=>⟨rfl,I.turned (t':=s.toks) (fun b o hb e=>eb b o hb e) f0 f1 f3 f4 f5⟩
 self:=fun _ _ _ _ _ st h=>wpAny_pyIter_rangeiter st h
end L2
namespace L2
open PySem PySem.Spec PyProof.Rows
section
variable {X:Cx}{tg:Expr}
def iList (K:PySem.W.Frag)(tl:TE):TI:=fun σ H R=>tl σ H fun x H1=>∃ a,x=.ref a∧(∃ xs,SqL K H1 a xs)∧R (Itl K a) H1
theorem vZ {l:Expr}{tl:TE}(hl:PE X l tl):PI X tg l (iList X.K tl):=by
 intro pins s σ H R I h
 refine thn (hl pins s σ H _ I h) fun v s1 ⟨x,H1,I1,r1,q1⟩=>?_
 obtain⟨a,e,⟨xs,hq⟩,q⟩:=q1
 subst e
 cases r1
 obtain⟨its,rv,p,hz⟩:=I1.list hq
 refine wpAny_pyIter_list p.isList ?_
 refine⟨s1.heap.objs.size,[s1.heap.objs.size],_,_,H1,rfl,I1.kept (t':=s1.toks) fun b o e=>Heap.get?_push_of_some _ e,turn_list a _,⟨_,Heap.get?_push_size _ rfl,rfl,rfl⟩,fun b hb=>?_,q⟩
 have e:b=s1.heap.objs.size:=by simpa using hb
 subst e
 exact I1.fpOk (Nat.le_refl _) (I1.hok.fresh (Nat.le_refl _))
theorem range_it {pins:List (Addr×Obj)}{σ:St}{H:Hp}{s:Shared}{R:It→Hp→Prop}{E:Value→Shared→Prop}{lo hi:Int}{t u v:Tok}{tk:Nat}(I:Inv X pins σ H s)(h1:-(2^62)≤lo)(h2:lo < 2^62)(h3:-(2^62)≤hi)(h4:hi < 2^62)
  (q:R (Itr lo (hi-lo).toNat) H):wpAny (model X.prog X.w) X.A (pyIter (.ref s.heap.objs.size)) (PIE X pins σ tg R) E { s with heap:=s.heap.push { cls:=.type "range",data:=.fields #[.int lo t,.int hi u,.int 1 v] },toks:=tk }:=by
 refine wpAny_pyIter_range (IsRange.new ..) (small_one h1 h2 h3 h4) ?_
 have I1:Inv X pins σ H { s with heap:=s.heap.push { cls:=.type "range",data:=.fields #[.int lo t,.int hi u,.int 1 v] },toks:=tk }:=I.kept fun b o e=>Heap.get?_push_of_some _ e
 refine⟨(s.heap.push { cls:=.type "range",data:=.fields #[.int lo t,.int hi u,.int 1 v] }).objs.size,[(s.heap.push { cls:=.type "range",data:=.fields #[.int lo t,.int hi u,.int 1 v] }).objs.size],_,_,H,rfl,
  I1.kept (t':=tk) fun b o e=>Heap.get?_push_of_some _ e,turn_range _ lo (hi-lo).toNat,?_,fun b hb=>?_,q⟩
 ·have e1:lo+((0:Nat):Int)*1=lo:=by simp
  have e2:(((hi-lo).toNat:Nat):Int)-((0:Nat):Int)=Builtin.Range.rangeSize lo hi 1:=by rw[rangeSize_one];split <;> omega
  show IsRangeIter _ _ (lo+((0:Nat):Int)*1) ((((hi-lo).toNat:Nat):Int)-((0:Nat):Int)) 1
  rw[e1,e2]
  exact Heap.get?_push_size _ rfl
 ·have e:b=(s.heap.push { cls:=.type "range",data:=.fields #[.int lo t,.int hi u,.int 1 v] }).objs.size:=by simpa using hb
  subst e
  exact I1.fpOk (Nat.le_refl _) (I1.hok.fresh (Nat.le_refl _))
def iRng1 (ta:TA):TI:=fun σ H R=>ta σ H fun vs H1=>∃ j:Int,vs=[.int j]∧-(2^62)≤j∧j < 2^62∧R (Itr 0 j.toNat) H1
def iRng2 (ta:TA):TI:=fun σ H R=>ta σ H fun vs H1=>∃ i j:Int,vs=[.int i,.int j]∧(-(2^62)≤i∧i < 2^62∧-(2^62)≤j∧j < 2^62)∧R (Itr i (j-i).toNat) H1
theorem jP {a:Expr}{ta:TA}{p pos:Pos}(hg:Gl X "range")(hm:X.mg "range"=none)(ha:PA X [a] ta)(hs:starEach [a] X.env=[(false,eval a X.env)]:=by rfl):PI X tg (.Call (.Name "range" p) [a] [] pos) (iRng1 ta):=by
 intro pins s σ H R I h
 refine Call_ (jT I hg hm boot_range (PyProof.Rows.callWith_type1 (thn (ha pos pins s σ H _ I h) fun us s1 ⟨vs,H1,I1,r1,q1⟩=>?_) hs rfl))
 obtain⟨j,e,q1,q2,q⟩:=q1
 subst e
 cases r1 with
 | cons r rr =>
  cases rr
  obtain⟨t,rfl⟩:=r
  exact call_range_1 (range_it I1 (by omega) (by omega) q1 q2 (by simpa using q))
theorem pi_range2 {a b:Expr}{ta:TA}{p pos:Pos}(hg:Gl X "range")(hm:X.mg "range"=none)(ha:PA X [a,b] ta)(hs:starEach [a,b] X.env=[(false,eval a X.env),(false,eval b X.env)]:=by rfl)(hs2:starEach [b] X.env=[(false,eval b X.env)]:=by rfl) :
  PI X tg (.Call (.Name "range" p) [a,b] [] pos) (iRng2 ta):=by
 intro pins s σ H R I h
 refine Call_ (jT I hg hm boot_range (PyProof.Rows.callWith_type1 (thn (ha pos pins s σ H _ I h) fun us s1 ⟨vs,H1,I1,r1,q1⟩=>?_) (by rw[hs,hs2]) (by rw[hs2];rfl)))
 obtain⟨i,j,e,⟨q1,q2,q3,q4⟩,q⟩:=q1
 subst e
 cases r1 with
 | cons r rr =>
  cases rr with
  | cons r' rr =>
   cases rr
   obtain⟨t,rfl⟩:=r
   obtain⟨t',rfl⟩:=r'
   exact call_range_2 (range_it I1 q1 q2 q3 q4 q)
def tFor (wi:TI)(g:TG)(tb:TS):TS:=fun D σ H=>wi σ H fun J H1=>∃ W:Nat→Nat→St→Hp→Prop,(∃ m,W 0 m σ H1)∧∀ i m σ H,W i m σ H →
 (J.stop i H∧D.nx σ H)∨(J.go i H∧∃ N:St→Hp→Prop,(∀ σ' H',N σ' H'→∃ m',m' < m∧W (i+1) m' σ' H')∧∀ x H',J.yld i H x H'→g x σ H' fun σ2 H2=>tb { D with nx:=N,ct:=N,bk:=D.nx } σ2 H2)
def pinsAt (fp:List Addr)(h:Heap):List (Addr×Obj):=fp.filterMap fun b=>(h.get? b).map fun o=>(b,o)
theorem zCj {fp:List Addr}{h:Heap}{b:Addr}{o:Obj}(hb:b∈fp)(e:h.get? b=some o):(b,o)∈pinsAt fp h:=List.mem_filterMap.mpr ⟨b,hb,by rw[e];rfl⟩
theorem of_pinsAt {fp:List Addr}{h:Heap}{p:Addr×Obj}(hp:p∈pinsAt fp h):p.1∈fp∧h.get? p.1=some p.2:=by
 obtain⟨b,hb,e⟩:=List.mem_filterMap.mp hp
 cases q:h.get? b with
 | none=>rw[q] at e;cases e
 | some o =>
  rw[q] at e
  have e':(b,o)=p:=Option.some.inj e
  subst e'
  exact⟨hb,q⟩
theorem Inv.pinned {pins:List (Addr×Obj)}{σ:St}{H:Hp}{s:Shared}{fp:List Addr}(I:Inv X pins σ H s)(hf:∀ b∈fp,FpOk X pins H b)(ho:∀ b∈fp,∃ o,s.heap.get? b=some o∧∀ v,o.data≠.cell v):Inv X (pins ++ pinsAt fp s.heap) σ H s :=
 I.zEk fun p hp=>(List.mem_append.mp hp).elim (fun z=>I.pin p (List.mem_append_right _ z)) fun z=>by
  obtain⟨hb,e⟩:=of_pinsAt z
  obtain⟨f0,f1,f2,_⟩:=hf p.1 hb
  obtain⟨o,e',d⟩:=ho p.1 hb
  rw[e] at e';cases e'
  exact⟨e,f0,f1,f2,d⟩
theorem Inv.unpinned {pins pl:List (Addr×Obj)}{σ:St}{H:Hp}{s:Shared}(I:Inv X (pins ++ pl) σ H s):Inv X pins σ H s:=I.zEk fun p hp=>I.pin p (List.mem_append_right _ (List.mem_append_left _ hp))
theorem jA {iter:Expr}{body:List Stmt}{wi:TI}{g:TG}{tb:TS}{pos:Pos}(hp:PassesOwn (model X.prog X.w) X.A X.env X.xe)(hc:X.calm=true)(hi:PI X tg iter wi)(hg:PG X tg g)(hb:PSs X body tb)
  (hs:∀ x,foldedSetIterable iter X.env x=pure x:=by intro _;rfl):PS X (.For tg iter body [] pos) (tFor wi g tb):=by
 intro pins s σ H D I h
 refine wpAny_For (thn (hi pins s σ H _ I h) fun v s1 h1=>thn h1 fun itv s2 h2=>?_) hs
 obtain⟨it,fp,tn,J,H2,e,I2,T,st2,f2,W,⟨m0,w0⟩,turn⟩:=h2
 subst e
 -- what stays true of the iterator's objects through the loop
 have stat:∀ {H':Hp},(∀ b∈fp,H' b=none)→∀ b∈fp,FpOk X pins H' b:=fun hn b hb=>⟨hn b hb,(f2 b hb).2⟩
 refine codeAny_forLoop_any (fun n s'=>∃ i σ' H',Inv X pins σ' H' s'∧tn i s'.heap∧(∀ b∈fp,H' b=none)∧W i n σ' H') ?_ m0 ⟨0,σ,H2,I2,st2,fun b hb=>(f2 b hb).1,w0⟩
 rintro n s3 ⟨i,σ3,H3,I3,st3,fr3,w3⟩
 rcases turn i n σ3 H3 w3 with ⟨stop,qn⟩ | ⟨go,N,hN,step⟩
 ·refine wpAny_passesOwn hp (thn (T.done X rfl rfl rfl hc i pins s3 σ3 H3 X.xe I3 (stat fr3) st3 stop) fun r s4 ⟨hr,I4⟩=>?_)
  subst hr
  exact wpAny_execs_nil ⟨σ3,H3,I4,qn⟩
 ·refine wpAny_passesOwn hp (thn (T.item X rfl rfl rfl hc i pins s3 σ3 H3 X.xe I3 (stat fr3) st3 go) fun r s4 ⟨u,hr,h4⟩=>?_)
  subst hr
  refine wpAny_passesOwn hp (thn h4 fun _ s5 ⟨x,H5,I5,r5,y5,st5,fr5⟩=>?_)
  have I5':=I5.pinned (stat fr5) (T.obj _ _ st5)
  refine wpAny_passesOwn hp (thn (hg _ s5 σ3 H5 x u _ I5' r5 (step x H5 y5)) fun _ s6 ⟨σ6,H6,I6,q6⟩=>?_)
  refine wpAny_passesOwn hp (thn (hb _ s6 σ6 H6 _ I6 q6) fun f s7 q7=>?_)
  have again:∀ {σ7:St}{H7:Hp},Inv X (pins ++ pinsAt fp s5.heap) σ7 H7 s7→N σ7 H7→∃ m,m < n∧∃ i σ' H',Inv X pins σ' H' s7∧tn i s7.heap∧(∀ b∈fp,H' b=none)∧W i m σ' H':=fun {σ7 H7} I7 n7=>by
   obtain⟨m',hm,w7⟩:=hN σ7 H7 n7
   refine⟨m',hm,i+1,σ7,H7,I7.unpinned,T.keep _ _ _ st5 fun b hb o e=>(I7.pin (b,o) (List.mem_append_right _ (List.mem_append_right _ (zCj hb e)))).1,fun b hb=>?_,w7⟩
   obtain⟨o,e,d⟩:=T.obj _ _ st5 b hb
   exact (I7.pin (b,o) (List.mem_append_right _ (List.mem_append_right _ (zCj hb e)))).2.1
  cases f with
  | next=>obtain⟨σ7,H7,I7,n7⟩:=q7;exact again I7 n7
  | cont=>obtain⟨σ7,H7,I7,n7⟩:=q7;exact again I7 n7
  | brk=>obtain⟨σ7,H7,I7,q7⟩:=q7;exact⟨σ7,H7,I7.unpinned,q7⟩
  | ret v=>obtain⟨x7,σ7,H7,I7,r7,q7⟩:=q7;exact⟨x7,σ7,H7,I7.unpinned,r7,q7⟩
end
theorem zAe {K:PySem.W.Frag}{a:Addr}{xs:List V}{g:TG}{tb:TS}{D:Ends}{σ:St}{H:Hp}(Pv:Nat→St→Hp→Prop)(h0:Pv 0 σ H)(hl:∀ i σ H,i≤xs.length→Pv i σ H→SqL K H a xs)
  (hs:∀ i x σ H,xs[i]?=some x→Pv i σ H→g x σ H fun σ2 H2=>tb { D with nx:=Pv (i+1),ct:=Pv (i+1),bk:=D.nx } σ2 H2)(hd:∀ σ H,Pv xs.length σ H→D.nx σ H) :
  ∃ W:Nat→Nat→St→Hp→Prop,(∃ m,W 0 m σ H)∧∀ i m σ H,W i m σ H →
   ((Itl K a).stop i H∧D.nx σ H)∨((Itl K a).go i H∧∃ N:St→Hp→Prop,(∀ σ' H',N σ' H'→∃ m',m' < m∧W (i+1) m' σ' H')∧∀ x H',(Itl K a).yld i H x H'→g x σ H' fun σ2 H2=>tb { D with nx:=N,ct:=N,bk:=D.nx } σ2 H2):=by
 refine⟨fun i m σ H=>m=xs.length-i∧i≤xs.length∧Pv i σ H,⟨xs.length,by simp,Nat.zero_le _,h0⟩,?_⟩
 rintro i m σ H ⟨rfl,hi,p⟩
 have q:=hl i σ H hi p
 by_cases hlt:i < xs.length
 ·refine .inr ⟨⟨xs,xs[i],q,by simp [hlt]⟩,Pv (i+1),fun σ' H' p'=>⟨xs.length-(i+1),by omega,rfl,hlt,p'⟩,fun x H' y=>?_⟩
  obtain⟨e,y⟩:=y
  subst e
  exact hs i x σ _ (y xs q) p
 ·have e:i=xs.length:=by omega
  subst e
  exact .inl ⟨⟨xs,q,Nat.le_refl _⟩,hd σ H p⟩
theorem zEe {lo:Int}{n:Nat}{g:TG}{tb:TS}{D:Ends}{σ:St}{H:Hp}(Pv:Nat→St→Hp→Prop)(h0:Pv 0 σ H)
  (hs:∀ i σ H,i < n→Pv i σ H→g (.int (lo+i)) σ H fun σ2 H2=>tb { D with nx:=Pv (i+1),ct:=Pv (i+1),bk:=D.nx } σ2 H2)(hd:∀ σ H,Pv n σ H→D.nx σ H) :
  ∃ W:Nat→Nat→St→Hp→Prop,(∃ m,W 0 m σ H)∧∀ i m σ H,W i m σ H →
   ((Itr lo n).stop i H∧D.nx σ H)∨((Itr lo n).go i H∧∃ N:St→Hp→Prop,(∀ σ' H',N σ' H'→∃ m',m' < m∧W (i+1) m' σ' H')∧∀ x H',(Itr lo n).yld i H x H'→g x σ H' fun σ2 H2=>tb { D with nx:=N,ct:=N,bk:=D.nx } σ2 H2):=by
 refine⟨fun i m σ H=>m=n-i∧i≤n∧Pv i σ H,⟨n,by simp,Nat.zero_le _,h0⟩,?_⟩
 rintro i m σ H ⟨rfl,hi,p⟩
 by_cases hlt:i < n
 ·refine .inr ⟨hlt,Pv (i+1),fun σ' H' p'=>⟨n-(i+1),by omega,rfl,hlt,p'⟩,fun x H' y=>?_⟩
  obtain⟨e,y⟩:=y
  subst e y
  exact hs i σ _ hlt p
 ·have e:i=n:=by omega
  subst e
  exact .inl ⟨Nat.le_refl _,hd σ H p⟩
end L2
namespace L2
open PySem PySem.Spec PyProof.Rows
abbrev R2:=V→V→Hp→VK→Prop
def OpR (X:Cx)(f:Value→Value→Sem Value)(r:R2):Prop :=
 ∀ (pins:List (Addr×Obj))(s:Shared)(σ:St)(H:Hp)(x y:V)(v u:Value)(Q:VK),Inv X pins σ H s→RelV x v→RelV y u→r x y H Q →
  wpAny (model X.prog X.w) X.A (f v u) (EP X pins σ Q) X.xe s
def UnR (X:Cx)(f:Value→Sem Value)(r:V→Hp→VK→Prop):Prop :=
 ∀ (pins:List (Addr×Obj))(s:Shared)(σ:St)(H:Hp)(x:V)(v:Value)(Q:VK),Inv X pins σ H s→RelV x v→r x H Q →
  wpAny (model X.prog X.w) X.A (f v) (EP X pins σ Q) X.xe s
def zEr (X:Cx)(f:Value)(r:List V→Hp→VK→Prop):Prop :=
 ∀ (pins:List (Addr×Obj))(s:Shared)(σ:St)(H:Hp)(xs:List V)(us:List Value)(Q:VK),Inv X pins σ H s→Vals xs us→r xs H Q →
  wpAny (model X.prog X.w) X.A (call f us) (EP X pins σ Q) X.xe s
def tOp (r:R2)(ta tb:TE):TE:=fun σ H Q=>ta σ H fun x H1=>tb σ H1 fun y H2=>r x y H2 Q
def tUn (r:V→Hp→VK→Prop)(ta:TE):TE:=fun σ H Q=>ta σ H fun x H1=>r x H1 Q
def rI (C:Int→Int→Prop)(g:Int→Int→V):R2:=fun x y H Q=>∃ i j,x=.int i∧y=.int j∧C i j∧Q (g i j) H
def rI0 (g:Int→Int→V):R2:=fun x y H Q=>∃ i j,x=.int i∧y=.int j∧Q (g i j) H
def rU (g:Int→V):V→Hp→VK→Prop:=fun x H Q=>∃ i,x=.int i∧Q (g i) H
section
variable {X:Cx}{a b c:Expr}{ta tb tc:TE}{pos:Pos}
theorem binT (ha:PE X a ta)(hb:PE X b tb){pins:List (Addr×Obj)}{s:Shared}{σ:St}{H:Hp}{R:V→V→Hp→Prop}(I:Inv X pins σ H s)
  (h:ta σ H fun x H1=>tb σ H1 fun y H2=>R x y H2){Q:Value→Shared→Prop}{f:Value→Value→Sem Value}
  (hf:∀ v u s2 x y H2,Inv X pins σ H2 s2→RelV x v→RelV y u→R x y H2→wpAny (model X.prog X.w) X.A (f v u) Q X.xe s2) :
  wpAny (model X.prog X.w) X.A (eval a X.env) (fun v s₁=>wpAny (model X.prog X.w) X.A (eval b X.env) (fun u s₂=>wpAny (model X.prog X.w) X.A (f v u) Q X.xe s₂) X.xe s₁) X.xe s:=by
 refine thn (ha pins s σ H _ I h) fun v s1 ⟨x,H1,I1,r1,q1⟩=>?_
 refine thn (hb pins s1 σ H1 _ I1 q1) fun u s2 ⟨y,H2,I2,r2,q2⟩=>?_
 exact hf v u s2 x y H2 I2 r1 r2 q2
theorem zO {op:Operator}{r:R2}(ho:OpR X (binaryOp op) r)(ha:PE X a ta)(hb:PE X b tb):PE X (.BinOp a op b pos) (tOp r ta tb):=by
 intro pins s σ H Q I h
 exact wpAny_BinOp (binT ha hb I h fun v u s2 x y H2 I2 rx ry q=>ho pins s2 σ H2 x y v u Q I2 rx ry q)
theorem pe_un {op:UnaryOp}{r:V→Hp→VK→Prop}(ho:UnR X (unaryOp op) r)(ha:PE X a ta):PE X (.UnaryOp op a pos) (tUn r ta):=by
 intro pins s σ H Q I h
 exact UnaryOp_ (thn (ha pins s σ H _ I h) fun v s1 ⟨x,H1,I1,r1,q1⟩=>ho pins s1 σ H1 x v Q I1 r1 q1)
theorem opI {f:Value→Value→Sem Value}{C:Int→Int→Prop}{g:Int→Int→Int}
  (rule:∀ (i j:Int)(t u:Tok)(s:Shared)(Q:Value→Shared→Prop)(E:Value→Shared→Prop),C i j→Q (.int (g i j) s.toks) { s with toks:=s.toks+1 }→wpAny (model X.prog X.w) X.A (f (.int i t) (.int j u)) Q E s) :
  OpR X f (rI C fun i j=>.int (g i j)):=by
 intro pins s σ H x y v u Q I rx ry h
 obtain⟨i,j,rfl,rfl,hc,q⟩:=h
 obtain⟨t,rfl⟩:=rx
 obtain⟨t',rfl⟩:=ry
 exact rule i j t t' s _ _ hc ⟨.int (g i j),H,I.tok _,⟨_,rfl⟩,q⟩
theorem opI0 {f:Value→Value→Sem Value}{g:Int→Int→Int}
  (rule:∀ (i j:Int)(t u:Tok)(s:Shared)(Q:Value→Shared→Prop)(E:Value→Shared→Prop),Q (.int (g i j) s.toks) { s with toks:=s.toks+1 }→wpAny (model X.prog X.w) X.A (f (.int i t) (.int j u)) Q E s) :
  OpR X f (rI0 fun i j=>.int (g i j)):=by
 intro pins s σ H x y v u Q I rx ry h
 obtain⟨i,j,rfl,rfl,q⟩:=h
 obtain⟨t,rfl⟩:=rx
 obtain⟨t',rfl⟩:=ry
 exact rule i j t t' s _ _ ⟨.int (g i j),H,I.tok _,⟨_,rfl⟩,q⟩
theorem opB0 {f:Value→Value→Sem Value}{g:Int→Int→Bool}
  (rule:∀ (i j:Int)(t u:Tok)(s:Shared)(Q:Value→Shared→Prop)(E:Value→Shared→Prop),Q (.bool (g i j)) s→wpAny (model X.prog X.w) X.A (f (.int i t) (.int j u)) Q E s) :
  OpR X f (rI0 fun i j=>.bl (g i j)):=by
 intro pins s σ H x y v u Q I rx ry h
 obtain⟨i,j,rfl,rfl,q⟩:=h
 obtain⟨t,rfl⟩:=rx
 obtain⟨t',rfl⟩:=ry
 exact rule i j t t' s _ _ ⟨.bl (g i j),H,I,rfl,q⟩
def CPow (i j:Int):Prop:=0≤j∧j≤1000000∧i.natAbs < 2^64
def CMul (i j:Int):Prop:=(-(2^64) < i∧i < 2^64)∨(-(2^64) < j∧j < 2^64)
theorem CMul.ok {i j:Int}(h:CMul i j):IntMulOk i j:=by
 rcases h with ⟨h1,h2⟩ | ⟨h1,h2⟩
 ·exact .of_left (intBits_le_64 h1 h2)
 ·exact .of_right (intBits_le_64 h1 h2)
theorem vX:OpR X (binaryOp .Add) (rI0 fun i j=>.int (i+j)):=opI0 fun _ _ _ _ _ _ _ q=>add_int q
theorem zAs:OpR X (binaryOp .Sub) (rI0 fun i j=>.int (i-j)):=opI0 fun _ _ _ _ _ _ _ q=>sub_int q
theorem vK:OpR X (binaryOp .Mod) (rI (fun _ j=>0 < j) fun i j=>.int (i%j)):=opI fun i j _ _ _ _ _ hc q=>by
 have h1:(0:Int) < j:=hc
 exact mod_int' (by omega) (by rw[Int.fmod_eq_emod_of_nonneg i (by omega)];exact q)
theorem op_pow:OpR X (binaryOp .Pow) (rI CPow fun i j=>.int (i^j.toNat)):=opI fun _ _ _ _ _ _ _ hc q=>pow_int_small hc.1 hc.2.1 hc.2.2 q
theorem unI {f:Value→Sem Value}{g:Int→Int}
  (rule:∀ (i:Int)(t:Tok)(s:Shared)(Q:Value→Shared→Prop)(E:Value→Shared→Prop),Q (.int (g i) s.toks) { s with toks:=s.toks+1 }→wpAny (model X.prog X.w) X.A (f (.int i t)) Q E s) :
  UnR X f (rU fun i=>.int (g i)):=by
 intro pins s σ H x v Q I rx h
 obtain⟨i,rfl,q⟩:=h
 obtain⟨t,rfl⟩:=rx
 exact rule i t s _ _ ⟨.int (g i),H,I.tok _,⟨_,rfl⟩,q⟩
theorem un_neg:UnR X (unaryOp .USub) (rU fun i=>.int (-i)):=unI fun _ _ _ _ _ q=>neg_int q
end
def scal:V→V→Bool
 | .non,.non=>true | .non,.int _=>true | .int _,.non=>true | .non,.bl _=>true | .bl _,.non=>true | .non,.str _=>true | .str _,.non=>true
 | .int _,.int _=>true | .bl _,.bl _=>true | .str _,.str _=>true | .byt _,.byt _=>true
 | .int _,.str _=>true | .str _,.int _=>true | .bl _,.str _=>true | .str _,.bl _=>true
 | _,_=>false
def rEq:R2:=fun x y H Q=>scal x y=true∧Q (.bl (decide (x=y))) H
def rNe:R2:=fun x y H Q=>scal x y=true∧Q (.bl (!decide (x=y))) H
theorem dec_int {i j:Int}:decide (V.int i=V.int j)=(i == j):=by
 rw[Bool.eq_iff_iff]
 simp
theorem dec_bl {i j:Bool}:decide (V.bl i=V.bl j)=(i == j):=by
 rw[Bool.eq_iff_iff]
 simp
theorem dec_str {i j:Str}:decide (V.str i=V.str j)=(i == j):=by
 rw[Bool.eq_iff_iff]
 simp
theorem dec_byt {i j:Array UInt8}:decide (V.byt i=V.byt j)=(i.toList == j.toList):=by
 rw[Bool.eq_iff_iff]
 cases i
 cases j
 simp
section
variable {X:Cx}{a b c:Expr}{ta tb tc:TE}{pos:Pos}
theorem vI {pins:List (Addr×Obj)}{σ:St}{H:Hp}{s:Shared}{Q:VK}{k k':Bool}(I:Inv X pins σ H s)(q:Q (.bl k) H)(e:k=k'):EP X pins σ Q (.bool k') s:=by
 subst e
 exact⟨.bl k,H,I,rfl,q⟩
theorem jR:OpR X (compareOp .Eq) rEq:=by
 intro pins s σ H x y v u Q I rx ry h
 obtain⟨hs,q⟩:=h
 cases x with
 | non =>
  cases rx
  cases y with
  | non=>cases ry;exact PySem.EqNone.eq_none_none (vI I q (by simp))
  | bl j=>cases ry;exact PySem.EqNone.eq_none_bool (vI I q (by simp))
  | int j=>obtain⟨t',rfl⟩:=ry;exact PySem.EqNone.eq_none_int (vI I q (by simp))
  | str j=>obtain⟨t',rfl⟩:=ry;exact PySem.EqNone.eq_none_str (vI I q (by simp))
  | _=>exact absurd (show false=true from hs) Bool.false_ne_true
 | bl i =>
  cases rx
  cases y with
  | non=>cases ry;exact PySem.EqNone.eq_bool_none (vI I q (by simp))
  | bl j=>cases ry;exact eq_bool (vI I q dec_bl)
  | str j=>obtain⟨t',rfl⟩:=ry;exact PySem.EqMixed.eq_bool_str (vI I q (by simp))
  | _=>exact absurd (show false=true from hs) Bool.false_ne_true
 | int i =>
  obtain⟨t,rfl⟩:=rx
  cases y with
  | non=>cases ry;exact PySem.EqNone.eq_int_none (vI I q (by simp))
  | int j=>obtain⟨t',rfl⟩:=ry;exact eq_int (vI I q dec_int)
  | str j=>obtain⟨t',rfl⟩:=ry;exact PySem.EqMixed.eq_int_str (vI I q (by simp))
  | _=>exact absurd (show false=true from hs) Bool.false_ne_true
 | str i =>
  obtain⟨t,rfl⟩:=rx
  cases y with
  | non=>cases ry;exact PySem.EqNone.eq_str_none (vI I q (by simp))
  | bl j=>cases ry;exact PySem.EqMixed.eq_str_bool (vI I q (by simp))
  | int j=>obtain⟨t',rfl⟩:=ry;exact PySem.EqMixed.eq_str_int (vI I q (by simp))
  | str j=>obtain⟨t',rfl⟩:=ry;exact eq_str (vI I q dec_str)
  | _=>exact absurd (show false=true from hs) Bool.false_ne_true
 | byt i =>
  obtain⟨t,rfl⟩:=rx
  cases y with
  | byt j=>obtain⟨t',rfl⟩:=ry;exact PySem.W.eq_bytes (vI I q dec_byt)
  | _=>exact absurd (show false=true from hs) Bool.false_ne_true
 | _=>cases y <;> exact absurd (show false=true from hs) Bool.false_ne_true
theorem zEy:OpR X (compareOp .NotEq) rNe:=by
 intro pins s σ H x y v u Q I rx ry h
 obtain⟨hs,q⟩:=h
 cases x with
 | non =>
  cases rx
  cases y with
  | non=>cases ry;exact PySem.EqNone.ne_none_none (vI I q (by simp))
  | bl j=>cases ry;exact PySem.EqNone.ne_none_bool (vI I q (by simp))
  | int j=>obtain⟨t',rfl⟩:=ry;exact PySem.EqNone.ne_none_int (vI I q (by simp))
  | str j=>obtain⟨t',rfl⟩:=ry;exact PySem.EqNone.ne_none_str (vI I q (by simp))
  | _=>exact absurd (show false=true from hs) Bool.false_ne_true
 | bl i =>
  cases rx
  cases y with
  | non=>cases ry;exact PySem.EqNone.ne_bool_none (vI I q (by simp))
  | bl j=>cases ry;exact ne_bool (vI I q (congrArg not dec_bl))
  | str j=>obtain⟨t',rfl⟩:=ry;exact PySem.EqMixed.ne_bool_str (vI I q (by simp))
  | _=>exact absurd (show false=true from hs) Bool.false_ne_true
 | int i =>
  obtain⟨t,rfl⟩:=rx
  cases y with
  | non=>cases ry;exact PySem.EqNone.ne_int_none (vI I q (by simp))
  | int j=>obtain⟨t',rfl⟩:=ry;exact ne_int (vI I q (congrArg not dec_int))
  | str j=>obtain⟨t',rfl⟩:=ry;exact PySem.EqMixed.ne_int_str (vI I q (by simp))
  | _=>exact absurd (show false=true from hs) Bool.false_ne_true
 | str i =>
  obtain⟨t,rfl⟩:=rx
  cases y with
  | non=>cases ry;exact PySem.EqNone.ne_str_none (vI I q (by simp))
  | bl j=>cases ry;exact PySem.EqMixed.ne_str_bool (vI I q (by simp))
  | int j=>obtain⟨t',rfl⟩:=ry;exact PySem.EqMixed.ne_str_int (vI I q (by simp))
  | str j=>obtain⟨t',rfl⟩:=ry;exact ne_str (vI I q (congrArg not dec_str))
  | _=>exact absurd (show false=true from hs) Bool.false_ne_true
 | byt i =>
  obtain⟨t,rfl⟩:=rx
  cases y with
  | byt j=>obtain⟨t',rfl⟩:=ry;exact PySem.W.ne_bytes (vI I q (congrArg not dec_byt))
  | _=>exact absurd (show false=true from hs) Bool.false_ne_true
 | _=>cases y <;> exact absurd (show false=true from hs) Bool.false_ne_true
theorem zEs:OpR X (compareOp .Lt) (rI0 fun i j=>.bl (decide (i < j))):=opB0 fun _ _ _ _ _ _ _ q=>lt_int q
theorem op_le:OpR X (compareOp .LtE) (rI0 fun i j=>.bl (decide (i≤j))):=opB0 fun _ _ _ _ _ _ _ q=>le_int q
theorem zEx:OpR X (compareOp .Gt) (rI0 fun i j=>.bl (decide (j < i))):=opB0 fun _ _ _ _ _ _ _ q=>gt_int q
theorem op_ge:OpR X (compareOp .GtE) (rI0 fun i j=>.bl (decide (j≤i))):=opB0 fun _ _ _ _ _ _ _ q=>ge_int q
theorem op_isN:OpR X (compareOp .Is) (fun x y H Q=>y=.non∧Q (.bl (decide (x=.non))) H):=by
 intro pins s σ H x y v u Q I rx ry h
 obtain⟨rfl,q⟩:=h
 cases ry
 refine is_none_gen (vI I q ?_)
 cases x <;> first
  | (cases rx;rfl)
  | (obtain⟨t,rfl⟩:=rx;rfl)
theorem zS (b:Expr){op:CmpOp}(h:op≠.In:=by decide)(h2:op≠.NotIn:=by decide):behindInMarks op b=false:=by
 have e1:(op == CmpOp.In)=false:=by cases op <;> first | rfl | exact absurd rfl h
 have e2:(op == CmpOp.NotIn)=false:=by cases op <;> first | rfl | exact absurd rfl h2
 cases b <;> simp [behindInMarks,e1,e2]
theorem zAt {op:CmpOp}{r:R2}(ho:OpR X (compareOp op) r)(ha:PE X a ta)(hb:PE X b tb)(hm:behindInMarks op b=false):PE X (.Compare a [op] [b] pos) (tOp r ta tb):=by
 intro pins s σ H Q I h
 exact wpAny_Compare1 (binT ha hb I h fun v u s2 x y H2 I2 rx ry q=>ho pins s2 σ H2 x y v u Q I2 rx ry q) hm
def tTest (t:TE):TT:=fun σ H Q=>t σ H fun x H'=>∃ k,x=.bl k∧Q k H'
theorem zN {op:CmpOp}{r:R2}(ho:OpR X (compareOp op) r)(ha:PE X a ta)(hb:PE X b tb)(hm:behindInMarks op b=false):PT X (.Compare a [op] [b] pos) (tTest (tOp r ta tb)):=by
 intro pins s σ H Q I h
 refine wpAny_isTrue_Compare1 (thn (ha pins s σ H _ I h) fun v s1 ⟨x,H1,I1,r1,q1⟩=>thn (hb pins s1 σ H1 _ I1 q1) fun u s2 ⟨y,H2,I2,r2,q2⟩ =>
  thn (ho pins s2 σ H2 x y v u _ I2 r1 r2 q2) fun c s3 ⟨z,H3,I3,r3,k,e,q3⟩=>?_) hm
 subst e
 cases r3
 exact wpAny_truthy_bool ⟨H3,I3,q3⟩
theorem line63:(sizeLine:Nat) < 2^63:=by rw[sizeLine_eq];decide
theorem vals1 {x:V}{us:List Value}(r:Vals [x] us):∃ u,us=[u]∧RelV x u:=by
 cases r with
 | cons r1 r2=>cases r2;exact⟨_,rfl,r1⟩
theorem vals2 {x y:V}{us:List Value}(r:Vals [x,y] us):∃ u w',us=[u,w']∧RelV x u∧RelV y w':=by
 cases r with
 | cons r1 r2 =>
  cases r2 with
  | cons r3 r4=>cases r4;exact⟨_,_,rfl,r1,r3⟩
theorem call_abs:zEr X (.builtin "abs") (fun xs H Q=>∃ i,xs=[.int i]∧Q (.int (if i < 0 then -i else i)) H):=by
 intro pins s σ H xs us Q I r h
 obtain⟨i,rfl,q⟩:=h
 obtain⟨u,rfl,t,rfl⟩:=vals1 r
 exact call_abs_int fun u tk=>⟨.int (if i < 0 then -i else i),H,I.tok _,⟨_,rfl⟩,q⟩
theorem call_max2 (hc:X.calm=true):zEr X (.builtin "max") (fun xs H Q=>∃ i j,xs=[.int i,.int j]∧Q (.int (if j > i then j else i)) H):=by
 intro pins s σ H xs us Q I r h
 obtain⟨i,j,rfl,q⟩:=h
 obtain⟨u,w',rfl,⟨t,rfl⟩,⟨t',rfl⟩⟩:=vals2 r
 refine max_two_ints (I.ok.hd hc) fun h' tk k=>⟨_,H,I.kept k,?_,q⟩
 by_cases hj:j > i
 ·rw[if_pos hj,if_pos hj];exact⟨_,rfl⟩
 ·rw[if_neg hj,if_neg hj];exact⟨_,rfl⟩
theorem zEc (hc:X.calm=true):zEr X (.builtin "min") (fun xs H Q=>∃ i j,xs=[.int i,.int j]∧Q (.int (if j < i then j else i)) H):=by
 intro pins s σ H xs us Q I r h
 obtain⟨i,j,rfl,q⟩:=h
 obtain⟨u,w',rfl,⟨t,rfl⟩,⟨t',rfl⟩⟩:=vals2 r
 refine min_two_ints (I.ok.hd hc) fun h' tk k=>⟨_,H,I.kept k,?_,q⟩
 by_cases hj:j < i
 ·rw[if_pos hj,if_pos hj];exact⟨_,rfl⟩
 ·rw[if_neg hj,if_neg hj];exact⟨_,rfl⟩
end
end L2
namespace L2
open PySem PySem.Spec PyProof.Rows
structure ObjM (h:Heap)(x dx C:Addr)(mA:Str→Option Value):Prop where
 obj:h.get? x=some (PySem.W.instObj C dx)
 ns:h.Ns1 dx mA
 ne:dx≠x
theorem lookIn_ns {h:Heap}{dx:Addr}{mA:Str→Option Value}(n:h.Ns1 dx mA):∃ od,h.get? dx=some od∧∀ name,PySem.W.lookIn name od=some (mA name):=by
 obtain⟨o,es,ep,ho,hd,hk,_,hm⟩:=n
 refine⟨o,ho,fun name=>?_⟩
 have e:=hm name
 unfold nsFind findBy at e
 rw[← Array.find?_toList] at e
 unfold PySem.W.lookIn
 rw[hd]
 dsimp only
 split
 ·rename_i y q
  rw[q] at e
  exact congrArg some e
 ·rename_i q
  rw[q] at e
  have a:es.toList.any (·.refKey)=false:=by
   rw[List.any_eq_false]
   intro y hy
   obtain⟨z,t,hkey⟩:=hk y (Array.mem_toList_iff.mp hy)
   simp [DictEntry.refKey,hkey]
  have a':¬ es.toList.any (·.refKey)=true:=by rw[a];exact Bool.false_ne_true
  rw[if_neg a']
  exact congrArg some e
theorem ObjM.look {h:Heap}{x dx C:Addr}{mA:Str→Option Value}(I:ObjM h x dx C mA):∃ od,PySem.W.InstAt h x (PySem.W.instObj C dx) C (some od)∧∀ name,PySem.W.lookIn name od=some (mA name) :=
 let ⟨od,ho,hl⟩:=lookIn_ns I.ns
 ⟨od,⟨I.obj,rfl,rfl,ho⟩,hl⟩
section
variable {prog:Program}{w:World}{A:Around}{E:Value→Shared→Prop}{s:Shared}{K:PySem.W.Frag}{x dx C f:Addr}{mA:Str→Option Value}{name:Str}{v:Value}
end
section
variable {P:Program}{w:World}{H H':Hp}{h h':Heap}{a C dx:Addr}{fs fs':List (Str×V)}
theorem ins_get (hok:HOk P w H h)(e:H a=some (.ins C dx fs)):∃ mA,ObjM h a dx C mA∧(∀ f,RelO (fs.lookup f) (mA f))∧PySem.Within mA (fs.map (·.1))∧fs.length≤1000∧H dx=some (.own a):=by
 obtain⟨d,z,ne,ob,mA,n,r,q⟩:=(show wH P w H h a (.ins C dx fs) from hok a _ e)
 exact⟨mA,⟨ob,n,ne⟩,r,q,z,d⟩
end
structure Cls (K:PySem.W.Frag)(C:Addr):Prop where
 pg:PySem.W.plainGet K C Str.empty=true
 hd:PySem.W.hasDictIn K C=true
 po:PySem.W.plainOver K C=true
 sa:PySem.W.findIn K (.ref C) "__setattr__"=some (some (.builtin "object.__setattr__"))
theorem Cls.get {K:PySem.W.Frag}{C:Addr}(c:Cls K C)(f:Str):PySem.W.plainGet K C f=true:=c.pg
section
variable {X:Cx}{pins:List (Addr×Obj)}{σ:St}{H:Hp}{s:Shared}{a C dx:Addr}{fs:List (Str×V)}{f:Str}{v:V}{A:Around}{E:Value→Shared→Prop}
theorem Inv.made (I:Inv X pins σ H s):Inv X pins σ (upd (upd H s.heap.objs.size (.own (s.heap.objs.size+1))) (s.heap.objs.size+1) (.ins C s.heap.objs.size []))
  { s with heap:=(s.heap.push PySem.W.emptyDict).push (PySem.W.instObj C s.heap.objs.size) }:=by
 have e1:(s.heap.push PySem.W.emptyDict).get? s.heap.objs.size=some PySem.W.emptyDict:=Heap.get?_push_size s.heap rfl
 have e2:((s.heap.push PySem.W.emptyDict).push (PySem.W.instObj C s.heap.objs.size)).get? (s.heap.objs.size+1)=some (PySem.W.instObj C s.heap.objs.size):=by
  have:=Heap.get?_push_size (s.heap.push PySem.W.emptyDict) (o:=PySem.W.instObj C s.heap.objs.size) rfl
  rwa [Heap.size_push] at this
 have e3:(s.heap.push PySem.W.emptyDict).Ns s.heap.objs.size (fun _=>none):=⟨PySem.W.emptyDict,#[],_,e1,rfl,(fun e he=>absurd he (by simp)),fun _=>rfl⟩
 have I1:=I.laid (a:=s.heap.objs.size) (o:=.own (s.heap.objs.size+1)) (h':=s.heap.push PySem.W.emptyDict) (t':=s.toks) (fun b u q=>Heap.get?_push_of_some _ q) (Nat.le_refl _) ⟨_,e1⟩
 refine I1.laid (a:=s.heap.objs.size+1) (o:=.ins C s.heap.objs.size []) (t':=s.toks) (fun b u q=>Heap.get?_push_of_some _ q) (Nat.le_of_eq (Heap.size_push _ _)) ?_
 have ne:s.heap.objs.size≠s.heap.objs.size+1:=Nat.ne_of_lt (Nat.lt_succ_self _)
 refine⟨by rw[zL ne,zD],Nat.zero_le _,ne,e2,fun _=>none,(Heap.Ns1.of_empty e3).at fun o q=>Heap.get?_push_of_some _ q,fun _=>True.intro,fun y hy=>absurd rfl hy⟩
end
section
variable {X:Cx}{o e value:Expr}{f:Str}{pos pos' tpos:Pos}{ta tv:TE}
end
section
variable {X:Cx}{pins:List (Addr×Obj)}{σ:St}{H:Hp}{s:Shared}{A:Around}{E:Value→Shared→Prop}{Q:Value→Shared→Prop}{c:Value}{b:Bool}
inductive TyOf (K:PySem.W.Frag)(H:Hp):V→Value→Prop where
 | non:TyOf K H .non (.type "NoneType")
 | bl (x:Bool):TyOf K H (.bl x) (.type "bool")
 | int (i:Int):TyOf K H (.int i) (.type "int")
 | str (x:Str):TyOf K H (.str x) (.type "str")
 | flt (x:UInt64):TyOf K H (.flt x) (.type "float")
 | lst {a:Addr}{xs:List V}(e:H a=some (.lst xs)):TyOf K H (.ref a) (.type "list")
 | frz {a:Addr}{o:Obj}{xs:List V}(e:H a=some (.frz o (.lst xs))):TyOf K H (.ref a) (.type "list")
 | tup {a:Addr}{xs:List V}(e:H a=some (.tup xs)):TyOf K H (.ref a) (.type "tuple")
 | dK {a:Addr}{kvs:List (Key×V)}(e:H a=some (.dK kvs)):TyOf K H (.ref a) (.type "dict")
 | dT {a:Addr}{kvs:List (List Key×V)}(e:H a=some (.dT kvs)):TyOf K H (.ref a) (.type "dict")
 | ins {a C dx:Addr}{fs:List (Str×V)}(e:H a=some (.ins C dx fs))(cl:Cls K C)(ha:PySem.W.findIn K (.ref C) "__class__"=some (some (.builtin "object.__class__")))
   (hn:PySem.W.specialIn K (.builtin "object.__class__") "__get__"=some (some (.builtin "getset_descriptor.__get__")))(htk:PySem.W.takesIn K (.builtin "object.__class__")=some true)
   (hm:PySem.W.mroIn K C (.type "object")=some true):TyOf K H (.ref a) (.ref C)
theorem isinst_ok {x:V}{u t:Value}(I:Inv X pins σ H s)(rx:RelV x u)(ty:TyOf X.K H x t)(e:PySem.W.kitOne X.K t c=some b)(h:∀ tk,Q (.bool b) { s with toks:=tk }) :
  wpAny (model X.prog X.w) A (call (.builtin "isinstance") [u,c]) Q E s:=by
 cases ty with
 | non=>cases (show u=Value.none from rx);exact PySem.W.kia_one PySem.W.kitx_none I.kIn True.intro e (fun z=>nomatch z) h
 | bl y=>cases (show u=Value.bool y from rx);exact PySem.W.kia_one PySem.W.kitx_bool I.kIn True.intro e (fun z=>nomatch z) h
 | int i=>obtain⟨t,q⟩:=(show ∃ t,u=Value.int i t from rx);cases q;exact PySem.W.kia_one PySem.W.kitx_int I.kIn True.intro e (fun z=>nomatch z) h
 | str y=>obtain⟨t,q⟩:=(show ∃ t,u=Value.str y t from rx);cases q;exact PySem.W.kia_one PySem.W.kitx_str I.kIn True.intro e (fun z=>nomatch z) h
 | flt y=>obtain⟨t,q⟩:=(show ∃ t,u=Value.float y t from rx);cases q;exact PySem.W.kia_one PySem.W.kitx_float I.kIn True.intro e (fun z=>nomatch z) h
 | @lst a xs ea =>
  cases (show u=Value.ref a from rx)
  obtain⟨_,_,n,_,h1⟩:=(show wH X.prog X.w H s.heap a (.lst xs) from I.hok a _ ea)
  exact PySem.W.kia_one PySem.W.kitx_list I.kIn ⟨_,h1,rfl⟩ e (fun z=>nomatch z) h
 | @frz a ob xs ea =>
  cases (show u=Value.ref a from rx)
  obtain⟨_,_,_,n,_,h1⟩:=(show wH X.prog X.w H s.heap a (.frz ob (.lst xs)) from I.hok a _ ea)
  exact PySem.W.kia_one PySem.W.kitx_list I.kIn ⟨_,h1,rfl⟩ e (fun z=>nomatch z) h
 | @tup a xs ea =>
  cases (show u=Value.ref a from rx)
  obtain⟨_,_,_,p⟩:=(show wH X.prog X.w H s.heap a (.tup xs) from I.hok a _ ea)
  obtain⟨o,h1,h2,_⟩:=p
  exact PySem.W.kia_one PySem.W.kitx_tuple I.kIn ⟨o,h1,h2⟩ e (fun z=>nomatch z) h
 | @dK a kvs ea =>
  cases (show u=Value.ref a from rx)
  obtain⟨_,_,vs,_,p⟩:=(show wH X.prog X.w H s.heap a (.dK kvs) from I.hok a _ ea)
  obtain⟨o,es,ep,h1,h2,_⟩:=p
  exact PySem.W.kia_one PySem.W.kitx_dict I.kIn ⟨o,h1,h2.1⟩ e (fun z=>nomatch z) h
 | @dT a kvs ea =>
  cases (show u=Value.ref a from rx)
  obtain⟨_,_,xs,_,o,es,ep,h1,h2,_⟩:=(show wH X.prog X.w H s.heap a (.dT kvs) from I.hok a _ ea)
  exact PySem.W.kia_one PySem.W.kitx_dict I.kIn ⟨o,h1,h2.1⟩ e (fun z=>nomatch z) h
 | @ins a C dx fs ea cl ha hn htk hm =>
  cases (show u=Value.ref a from rx)
  obtain⟨mA,O,_⟩:=ins_get I.hok ea
  obtain⟨od,J,_⟩:=O.look
  exact PySem.W.kia_one (PySem.W.kitx_own (cl.get _) cl.hd ha hn htk hm) I.kIn J e (fun z=>nomatch z) h
end
end L2
namespace L2
open PySem PySem.Spec PyProof.Rows
structure zDm (k:Nat)(A:Around):Prop where
 hd:A.handled=none
 dp:A.depth+3*k+5 < recursionLimit
 un:A.units+16*k+200 < cLine
theorem zDm.mono {j k:Nat}{A:Around}(r:zDm k A)(h:j≤k):zDm j A:=⟨r.hd,by have:=r.dp;omega,by have:=r.un;omega⟩
theorem zDm.deeper {k:Nat}{A:Around}(r:zDm (k+1) A)(env:Env):zDm k (A.deeper env) :=
 ⟨r.hd,by have:=r.dp;show A.depth+1+3*k+5 < _;omega,by have:=r.un;show A.units+3+16*k+200 < _;omega⟩
theorem zDm.in1 {k:Nat}{A:Around}(r:zDm (k+1) A):zDm k A.in1 :=
 ⟨r.hd,by have:=r.dp;show A.depth+3*k+5 < _;omega,by have:=r.un;show A.units+1+16*k+200 < _;omega⟩
theorem zDm.depth {k:Nat}{A:Around}(r:zDm k A):A.depth < recursionLimit:=by have:=r.dp;omega
theorem zDm.units {k:Nat}{A:Around}(r:zDm k A):A.units+64 < cLine:=by have:=r.un;omega
def tNil:TA:=fun _ H Q=>Q [] H
def tCons (ta:TE)(tr:TA):TA:=fun σ H Q=>ta σ H fun x H1=>tr σ H1 fun xs H2=>Q (x::xs) H2
section
variable {X:Cx}{e:Expr}{es:List Expr}{te:TE}{t:TA}{pos:Pos}
theorem zH:PA X [] tNil:=fun _ _ _ _ H Q I h=>Calls.spliced_nil ⟨[],H,I,.nil,h⟩
theorem zA (ha:PE X e te)(hr:PA X es t)(hs:starEach (e::es) X.env=(false,eval e X.env)::starEach es X.env:=by rfl):PA X (e::es) (tCons te t):=by
 intro pos pins s σ H Q I h
 rw[hs]
 show wpAny _ _ (spliced ((false,eval e X.env)::backTo pos (starEach es X.env))) _ _ s
 refine Calls.spliced_cons (thn (ha pins s σ H _ I h) fun u s1 ⟨x,H1,I1,r1,q1⟩=>?_)
 exact thn (hr pos pins s1 σ H1 _ I1 q1) fun us s2 ⟨xs,H2,I2,r2,q2⟩=>⟨x::xs,H2,I2,.cons r1 r2,q2⟩
def tTup (t:TA):TE:=fun σ H Q=>t σ H fun xs H1=>xs.length≤sizeLine∧∀ p,H1 p=none→Q (.ref p) (upd H1 p (.tup xs))
def tLst (t:TA):TE:=fun σ H Q=>t σ H fun xs H1=>xs.length≤sizeLine∧∀ p,H1 p=none→Q (.ref p) (upd H1 p (.lst xs))
theorem wI {x1}(h:PA X es t):PE X (.Tuple es x1 pos) (tTup t):=by
 intro pins s σ H Q I hq
 refine wpAny_Tuple_spliced (thn (h pos pins s σ H _ I hq) fun us s1 ⟨xs,H1,I1,r,z,q⟩=>⟨by rw[← r.length];exact z,?_⟩)
 have hf:H1 s1.heap.objs.size=none:=I1.hok.fresh (Nat.le_refl _)
 refine⟨.ref s1.heap.objs.size,upd H1 s1.heap.objs.size (.tup xs),I1.laid (t':=s1.toks) (fun b u e=>Heap.get?_push_of_some _ e) (Nat.le_refl _) ?_,rfl,q _ hf⟩
 exact⟨z,us,r,⟨_,Heap.get?_push_size _ rfl,rfl,_,rfl⟩⟩
theorem wE (h:PA X es t):PE X (.List es pos) (tLst t):=by
 intro pins s σ H Q I hq
 refine wpAny_List_spliced (thn (h pos pins s σ H _ I hq) fun us s1 ⟨xs,H1,I1,r,z,q⟩=>⟨by rw[← r.length];exact z,?_⟩)
 have hf:H1 s1.heap.objs.size=none:=I1.hok.fresh (Nat.le_refl _)
 refine⟨.ref s1.heap.objs.size,upd H1 s1.heap.objs.size (.lst xs),I1.laid (t':=s1.toks) (fun b u e=>Heap.get?_push_of_some _ e) (Nat.le_refl _) ?_,rfl,q _ hf⟩
 exact⟨z,us,0,r,Heap.get?_push_size _ rfl⟩
end
abbrev Sp:=List V→Hp→VK→XK→Prop
abbrev CXT:=List Env→Hp→Shared→XK→Value→Shared→Prop
structure Env0 (P:Program)(w:World)(K:PySem.W.Frag)(mg:Str→Option Value)(base:Heap)(A:Around)(outer:List Env)(s:Shared)(H:Hp):Prop where
 frames:A.frames=some outer
 mod:Mod K mg base
 bs:∀ b o,base.get? b=some o→s.heap.get? b=some o∧H b=none
 bsz:base.objs.size≤s.heap.objs.size
 funs:s.heap.FunFrames base outer
 frf:∀ b∈frs outer,H b=none
 hok:HOk P w H s.heap
 bare:AllBare s.gens
def CE (outer:List Env)(P:Program)(w:World)(H:Hp)(s:Shared)(Q:VK)(u:Value)(s':Shared):Prop :=
 ∃ v H',s'.os=s.os∧AllBare s'.gens∧Un (frs outer) [] H H' s.heap s'.heap∧HOk P w H' s'.heap∧RelV v u∧Q v H'
def CR (CX:CXT)(outer:List Env)(P:Program)(w:World)(H:Hp)(s:Shared)(Q:VK)(E:XK)(r:Result)(s':Shared):Prop :=
 match r with
 | .ok (.ret u)=>CE outer P w H s Q u s'
 | .ok _=>False
 | .error e=>CX outer H s E e s'
structure FnOk (P:Program)(w:World)(K:PySem.W.Frag)(mg:Str→Option Value)(base:Heap)(CX:CXT)(k:Nat)(f:Addr)(fd:FuncData)(ps:List Str)(sp:Sp):Prop where
 len:∀ vs H Q E,sp vs H Q E→vs.length=ps.length
 run:∀ (A:Around)(outer:List Env)(s:Shared)(H:Hp)(args:Args)(us:List Value)(vs:List V)(Q:VK)(E:XK),zDm k A→Env0 P w K mg base A outer s H→BindsTo s fd args (ps.zip us)→Vals vs us→sp vs H Q E →
  codeAny (model P w) A (.call (.ref f) args) (CR CX outer P w H s Q E) s
theorem Env0.in1 {P:Program}{w:World}{K:PySem.W.Frag}{mg:Str→Option Value}{base:Heap}{A:Around}{outer:List Env}{s:Shared}{H:Hp}(e:Env0 P w K mg base A outer s H) :
  Env0 P w K mg base A.in1 outer s H:=⟨e.frames,e.mod,e.bs,e.bsz,e.funs,e.frf,e.hok,e.bare⟩
section
variable {X:Cx}{pins:List (Addr×Obj)}{σ:St}{H:Hp}{s s':Shared}
theorem Inv.env0 (I:Inv X pins σ H s):Env0 X.prog X.w X.K X.mg X.base X.A X.stack s H :=
 ⟨I.ok.frames,I.ok.mod,I.bs,Nat.le_trans I.ok.bsz I.sz,I.stack,I.stkFree,I.hok,I.bare⟩
theorem Inv.after {Q:VK}{u:Value}(I:Inv X pins σ H s)(h:CE X.stack X.prog X.w H s Q u s'):EP X pins σ Q u s':=by
 obtain⟨v,H',os,bare,un,hok,r,q⟩:=h
 obtain⟨hh,g,d,t,os'⟩:=s'
 obtain rfl:os'=s.os:=os
 exact⟨v,H',I.call (h':=hh) (g':=g) (d':=d) (t':=t) (ch:=[]) un hok bare (fun b z=>absurd z (by simp)),r,q⟩
end
def tCall (sp:Sp)(dvs:List V)(E:XK)(t:TA):TE:=fun σ H Q=>t σ H fun vs H1=>sp (vs ++ dvs) H1 Q E
def Binds (K:PySem.W.Frag)(fd:FuncData)(ps:List Str)(ds:List Value):Prop :=
 ∀ (s:Shared)(us:List Value),K.In s.heap→(us ++ ds).length=ps.length→BindsTo s fd ⟨us,[]⟩ (ps.zip (us ++ ds))
theorem Binds.all {K:PySem.W.Frag}{fd:FuncData}{ps:List Str}(h:∀ us:List Value,us.length=ps.length→bindArgs fd ⟨us,[]⟩=pure (ps.zip us)):Binds K fd ps []:=fun s us _ hl=>by
 rw[List.append_nil] at hl ⊢
 exact .of_eq (h us hl)
def Passes (CX:CXT)(X:Cx)(E:XK):Prop:=∀ (pins:List (Addr×Obj))(σ:St)(H:Hp)(s:Shared)(e:Value)(s':Shared),Inv X pins σ H s→CX X.stack H s E e s'→X.xe e s'
section
variable {X:Cx}{CX:CXT}{k:Nat}{f C:Addr}{fd:FuncData}{ps:List Str}{sp:Sp}{dvs:List V}{ds:List Value}{E:XK}{x m:Str}{p pos apos:Pos}{e o:Expr}{es:List Expr}{ta:TE}{t:TA}
theorem run_fn {pins:List (Addr×Obj)}{σ:St}{H:Hp}{s:Shared}{Q:VK}{us:List Value}{vs:List V}(F:FnOk X.prog X.w X.K X.mg X.base CX k f fd ps sp)(hr:zDm k X.A)(hb:Binds X.K fd ps ds)(hd:Vals dvs ds)(hx:Passes CX X E)
  (I:Inv X pins σ H s)(r:Vals vs us)(h:sp (vs ++ dvs) H Q E):wpAny (model X.prog X.w) X.A (call (.ref f) us) (EP X pins σ Q) X.xe s:=by
 have r2:Vals (vs ++ dvs) (us ++ ds):=r.append hd
 have hl:(us ++ ds).length=ps.length:=by rw[← r2.length];exact F.len _ _ _ _ h
 refine wpAny_call (codeAny_mono (F.run X.A X.stack s H ⟨us,[]⟩ (us ++ ds) (vs ++ dvs) Q E hr I.env0 (hb s us I.kIn hl) r2 h) fun r s' hq=>?_)
 cases r with
 | error e=>exact hx pins σ H s e s' I hq
 | ok fl =>
  cases fl with
  | ret u=>exact I.after hq
  | next=>exact False.elim hq
  | brk=>exact False.elim hq
  | cont=>exact False.elim hq
theorem pe_call (F:FnOk X.prog X.w X.K X.mg X.base CX k f fd ps sp)(hr:zDm k X.A)(hg:Gl X x)(hm:X.mg x=some (.ref f))(hk:PySem.W.keepIn X.K (.ref f)=true)(hb:Binds X.K fd ps ds)(hd:Vals dvs ds)(hx:Passes CX X E)
  (ha:PA X (e::es) t)(hdb:(x == ("__debug__":Str))=false:=by decide)(he:starEach (e::es) X.env=(false,eval e X.env)::starEach es X.env:=by rfl)(hpl:(backTo pos (starEach es X.env)).any (·.1)=false:=by rfl) :
  PE X (.Call (.Name x p) (e::es) [] pos) (tCall sp dvs E t):=by
 intro pins s σ H Q I h
 refine wpAny_Call_Name_kw (ld_glob I hg hm ?_ hdb)
 refine PySem.W.callWith_K (h₀:=X.base) I.ok.mod.kin hk (thn (ha pos pins s σ H _ I h) fun us s1 ⟨vs,H1,I1,r,q⟩=>⟨I1.kIn,?_⟩) he hpl
 exact run_fn F hr hb hd hx I1 r q
end
section
variable {X:Cx}{CX:CXT}{k:Nat}{f C:Addr}{fd:FuncData}{ps ks:List Str}{sp:Sp}{E:XK}{x m:Str}{p pos apos kpos:Pos}{e o:Expr}{es:List Expr}{kws:List Keyword}{te ta:TE}{t tk:TA}{nm:Option Str}
variable {g:List Value→List Value→List Value}{gV:List V→List V→List V}
end
structure zV (N P:List Str)(sc:Scope):Prop where
 kind:sc.kind=.function
 co:sc.isCoroutine=false
 gen:sc.isGenerator=false
 nd:N.Nodup
 pre:N.take P.length=P
 par:∀ x∈P,sc.names.lookup x=some .local∨sc.names.lookup x=some .cell
 nofree:∀ y∈sc.names,y.2≠.free
theorem bindL_out {kindOf:Str→Option NameKind}{x:Str}:∀ {binds:List (Str×Value)}{m:Str→Option Value},(∀ v,(x,v)∉binds)→bindL kindOf binds m x=m x
 | [],_,_=>rfl
 | (n,v)::r,m,h=>by
  unfold bindL
  rw[bindL_out fun w hw=>h w (List.mem_cons_of_mem _ hw)]
  split
  ·have:x≠n:=by rintro rfl;exact h v List.mem_cons_self
   simp [this]
  ·rfl
theorem bindC_out {kindOf:Str→Option NameKind}{x:Str}:∀ {binds:List (Str×Value)}{m:Str→Option Value},(∀ v,(x,v)∉binds)→bindC kindOf binds m x=m x
 | [],_,_=>rfl
 | (n,v)::r,m,h=>by
  unfold bindC
  rw[bindC_out fun w hw=>h w (List.mem_cons_of_mem _ hw)]
  split
  ·rfl
  ·have:x≠n:=by rintro rfl;exact h v List.mem_cons_self
   simp [this]
theorem bindL_get {kindOf:Str→Option NameKind}{x:Str}{v:Value}:∀ {P:List Str}{vs:List Value}{i:Nat}{m:Str→Option Value},P.Nodup→P[i]?=some x→vs[i]?=some v→kindOf x=some .local →
  bindL kindOf (P.zip vs) m x=some v
 | [],_,_,_,_,h,_,_=>by simp at h
 | _::_,[],_,_,_,_,h,_=>by simp at h
 | p::P,w::vs,0,m,nd,h1,h2,hk=>by
  simp at h1 h2;subst h1;subst h2
  show bindL kindOf ((p,w)::P.zip vs) m p=_
  unfold bindL
  rw[bindL_out fun v hv=>(List.nodup_cons.mp nd).1 (List.of_mem_zip hv).1,if_pos hk]
  simp
 | p::P,w::vs,i+1,m,nd,h1,h2,hk=>by
  show bindL kindOf ((p,w)::P.zip vs) m x=_
  unfold bindL
  exact bindL_get (i:=i) (List.nodup_cons.mp nd).2 (by simpa using h1) (by simpa using h2) hk
theorem bindC_get {kindOf:Str→Option NameKind}{x:Str}{v:Value}:∀ {P:List Str}{vs:List Value}{i:Nat}{m:Str→Option Value},P.Nodup→P[i]?=some x→vs[i]?=some v→kindOf x≠some .local →
  bindC kindOf (P.zip vs) m x=some v
 | [],_,_,_,_,h,_,_=>by simp at h
 | _::_,[],_,_,_,_,h,_=>by simp at h
 | p::P,w::vs,0,m,nd,h1,h2,hk=>by
  simp at h1 h2;subst h1;subst h2
  show bindC kindOf ((p,w)::P.zip vs) m p=_
  unfold bindC
  rw[bindC_out fun v hv=>(List.nodup_cons.mp nd).1 (List.of_mem_zip hv).1,if_neg hk]
  simp
 | p::P,w::vs,i+1,m,nd,h1,h2,hk=>by
  show bindC kindOf ((p,w)::P.zip vs) m x=_
  unfold bindC
  exact bindC_get (i:=i) (List.nodup_cons.mp nd).2 (by simpa using h1) (by simpa using h2) hk
def start (N:List Str)(vs:List V):St:=vs.map some ++ List.replicate (N.length-vs.length) none
def cxOf (CX:CXT)(P:Program)(w:World)(K:PySem.W.Frag)(mg:Str→Option Value)(base:Heap)(N:List Str)(qual:Str)(scope:Scope)(f:Addr)(cd:Value)(A:Around)(outer:List Env)(s:Shared)(H:Hp)(E:XK):Cx where
 prog:=P
 w:=w
 K:=K
 mg:=mg
 base:=base
 A:=A.deeper (envOfC qual scope s.heap.objs.size f cd)
 N:=N
 s₀:=s
 H₀:=H
 env:=envOfC qual scope s.heap.objs.size f cd
 outer:=outer
 stack:=envOfC qual scope s.heap.objs.size f cd::outer
 ex:=[]
 calm:=true
 fn:=fun _=>true
 pn:=[]
 xe:=fun e s'=>wpAny (model P w) (A.deeper (envOfC qual scope s.heap.objs.size f cd)) (leaving (envOfC qual scope s.heap.objs.size f cd) e) (fun _ s''=>CX outer H s E e s'') (fun e' s''=>CX outer H s E e' s'') s'
theorem cell_has {sc:Scope}{n:Nat}{x:Str}(h:sc.names.lookup x=some .cell):∃ c,(cellsFrom n sc.names []).lookup x=some c:=by
 have q:=PySem.W.cellsFrom_some sc.names n [] (.inl h)
 exact Option.isSome_iff_exists.mp q
theorem inv_start {CX:CXT}{P:Program}{w:World}{K:PySem.W.Frag}{mg:Str→Option Value}{base:Heap}{N ps:List Str}{qual:Str}{scope:Scope}{f:Addr}{cd:Value}{A:Around}{outer:List Env}{s s1:Shared}{H:Hp}{E:XK}{us:List Value}{vs:List V}
  (S:zV N ps scope)(hd:A.handled=none)(e0:Env0 P w K mg base A outer s H)(hl:vs.length=ps.length)(r:Vals vs us)
  (x:InCallC s s.heap.objs.size (bindL (envOfC qual scope s.heap.objs.size f cd).kindOf (ps.zip us) fun _=>none) (cellsFrom (s.heap.objs.size+1) scope.names []) (bindC (envOfC qual scope s.heap.objs.size f cd).kindOf (ps.zip us) fun _=>none) s1) :
  Inv (cxOf CX P w K mg base N qual scope f cd A outer s H E) [] (start N vs) H s1:=by
 have hpl:ps.length≤N.length:=by have:=congrArg List.length S.pre;rw[List.length_take] at this;omega
 obtain⟨h1,tk,rfl,hk⟩:=x.done
 have noA:∀ b:Addr,b∉(cxOf CX P w K mg base N qual scope f cd A outer s H E).ex:=fun b z=>absurd (show b∈([]:List Addr) from z) (by simp)
 refine⟨⟨e0.mod,S.kind,rfl,rfl,Nat.le_refl _,fun y z c h1 h2=>?_,fun y hy=>?_,fun y c _ h=>?_,fun _=>hd,Around.frames_deeper e0.frames,.inr ⟨rfl,rfl⟩,fun b z=>absurd z (noA b),e0.bs,e0.bsz,fun b _ _=>noA b,fun b z=>absurd z (noA b),e0.funs,e0.frf⟩,
  rfl,e0.bare,Un.kept hk,⟨_,x.toInCall.ns,fun i y v h1 h2 h3=>?_⟩,fun y c h=>⟨_,x.cell y c h⟩,e0.hok.fresh (Nat.le_refl _),fun y c h=>?_,fun p hp=>absurd (show p∈([]:List (Addr×Obj)) from hp) (by simp),e0.hok.kept hk,?_⟩
 ·exact name_of_addr x.apart (PySem.mem_of_lookup h1) (PySem.mem_of_lookup h2)
 ·have hy:scope.names.lookup y=some .cell∨scope.names.lookup y=some .free:=hy
  rcases hy with hy | hy
  ·exact cell_has hy
  ·exact absurd rfl (S.nofree _ (PySem.mem_of_lookup hy))
 ·exact Nat.le_of_lt (x.above y c (PySem.mem_of_lookup h))
 ·have hi:i < vs.length:=by
   unfold start at h2
   by_cases hi:i < vs.length
   ·exact hi
   ·rw[List.getElem?_append_right (by simpa using hi)] at h2
    rw[List.getElem?_replicate] at h2
    split at h2 <;> cases h2
  have ha:vs[i]?=some v:=by
   unfold start at h2
   rw[List.getElem?_append_left (by simpa using hi),List.getElem?_map] at h2
   cases e:vs[i]? with
   | none=>rw[e] at h2;cases h2
   | some a=>rw[e] at h2;cases h2;rfl
  obtain⟨u,hu,rv⟩:=r.get ha
  have hp:ps[i]?=some y:=by
   rw[← S.pre,List.getElem?_take_of_lt (by omega)];exact h1
  have ndP:ps.Nodup:=by rw[← S.pre];exact S.nd.sublist (List.take_sublist _ _)
  refine⟨u,rv,?_⟩
  rcases S.par y (List.mem_of_getElem? hp) with k | k
  ·exact .inl ⟨k,bindL_get ndP hp hu k⟩
  ·obtain⟨c,e⟩:=cell_has (n:=s.heap.objs.size+1) k
   refine .inr ⟨.inl k,c,e,?_⟩
   have q:=x.cell y c e
   rw[bindC_get ndP hp hu (by show scope.names.lookup y≠_;rw[k];decide)] at q
   exact q
 ·exact e0.hok.fresh (Nat.le_of_lt (x.above y c (PySem.mem_of_lookup h)))
 ·unfold start
  show _=N.length
  rw[List.length_append,List.length_map,List.length_replicate]
  omega
theorem fn_of {CX:CXT}{P:Program}{w:World}{K:PySem.W.Frag}{mg:Str→Option Value}{base:Heap}{k:Nat}{f:Addr}{name qual:Str}{params:Arguments}{body:List Stmt}{scope:Scope}{dV kV doc pm cdv ct oc:Value}{an od:Option Addr}
  {osl:Array (Option Value)}{N ps:List Str}{sp:Sp}(lk:K.lookup f=some ⟨oc,od,.func (PySem.W.fnOf name qual params body scope dV kV doc pm an cdv ct),osl⟩)(hcd:PySem.W.codeIn K cdv qual=true)(S:zV N ps scope)
  (len:∀ vs H Q E,sp vs H Q E→vs.length=ps.length)
  (hbody:∀ (A:Around)(outer:List Env)(s:Shared)(H:Hp)(vs:List V)(Q:VK)(E:XK),zDm k (A.deeper (envOfC qual scope s.heap.objs.size f cdv))→sp vs H Q E →
   ∃ t,PSs (cxOf CX P w K mg base N qual scope f cdv A outer s H E) body t∧t { nx:=fun _ H'=>Q .non H',rt:=Q } (start N vs) H) :
  FnOk P w K mg base CX (k+1) f (PySem.W.fnOf name qual params body scope dV kV doc pm an cdv ct) ps sp:=by
 refine⟨len,fun A outer s H args us vs Q E hr e0 hb r hsp=>?_⟩
 have hl:=len _ _ _ _ hsp
 have KX:K.In s.heap:=e0.mod.kin.keeps fun b o e=>(e0.bs b o e).1
 have lim:s.heap.NoLimit:=e0.mod.nolimit.keeps fun b o e=>(e0.bs b o e).1
 have hkind:∀ y∈ps.zip us,scope.names.lookup y.1=some .local∨(scope.names.lookup y.1=some .cell∧((cellsFrom (s.heap.objs.size+1) scope.names []).lookup y.1).isSome=true):=fun ⟨n,v⟩ hy=>by
  rcases S.par n (List.of_mem_zip hy).1 with q | q
  ·exact .inl q
  ·exact .inr ⟨q,PySem.W.cellsFrom_some _ _ _ (.inl q)⟩
 refine codeAny_call_function hr.depth (KX _ _ lk) rfl S.co S.gen rfl (PySem.W.codeRec_of KX hcd) (hb _ _ _ _ ?_)
 refine wpAny_newFunctionEnv_cells S.kind hkind fun env he s1 x=>?_
 subst he
 refine⟨lim.keeps x.toInCall.keep,codeAny_func ?_⟩
 obtain⟨t,ht,hq⟩:=hbody A outer s H vs Q E (hr.deeper _) hsp
 have I:Inv (cxOf CX P w K mg base N qual scope f cdv A outer s H E) [] (start N vs) H s1:=inv_start S hr.hd e0 hl r x
 refine wpAny_mono (ht [] s1 (start N vs) H _ I hq) (fun fl s' hs=>?_) fun e s' hs=>hs
 have fin:∀ {σ':St}{H':Hp}{v:V}{u:Value},Inv (cxOf CX P w K mg base N qual scope f cdv A outer s H E) [] σ' H' s'→RelV v u→Q v H'→CE outer P w H s Q u s' :=
  fun {σ' H' v u} J rv q=>⟨v,H',J.os,J.bare,J.base,J.hok,rv,q⟩
 cases fl with
 | ret u =>
  obtain⟨v,σ',H',J,rv,q⟩:=hs
  exact fin J rv q
 | next =>
  obtain⟨σ',H',J,q⟩:=hs
  exact fin (v:=V.non) (u:=Value.none) J rfl q
 | brk =>
  obtain⟨_,_,_,q⟩:=hs
  exact False.elim q
 | cont =>
  obtain⟨_,_,_,q⟩:=hs
  exact False.elim q
end L2
namespace L2
open PySem PySem.Spec PyProof.Rows
section
variable {X:Cx}{x:Str}{p pos:Pos}{e:Expr}{es:List Expr}{t:TA}{id T:String}{r:List V→Hp→VK→Prop}
def tCB (r:List V→Hp→VK→Prop)(t:TA):TE:=fun σ H Q=>t σ H fun vs H1=>r vs H1 Q
theorem zW (hc:zEr X (.builtin id) r)(hg:Gl X x)(hm:X.mg x=none)(hv:bootBuiltins x=some (.builtin id))(ha:PA X (e::es) t)(hn:x≠"__name__":=by decide)(hdb:(x == ("__debug__":Str))=false:=by decide)
  (he:starEach (e::es) X.env=(false,eval e X.env)::starEach es X.env:=by rfl)(hpl:(backTo pos (starEach es X.env)).any (·.1)=false:=by rfl):PE X (.Call (.Name x p) (e::es) [] pos) (tCB r t):=by
 intro pins s σ H Q I h
 refine wpAny_Call_Name_kw (jT I hg hm hv ?_ hn hdb)
 exact PyProof.Rows.callWith_builtin1 (thn (ha pos pins s σ H _ I h) fun us s1 ⟨vs,H1,I1,r1,q1⟩=>hc pins s1 σ H1 vs us Q I1 r1 q1) he hpl
theorem zCh (hc:zEr X (.type T) r)(hg:Gl X x)(hm:X.mg x=none)(hv:bootBuiltins x=some (.type T))(ha:PA X (e::es) t)(hn:x≠"__name__":=by decide)(hdb:(x == ("__debug__":Str))=false:=by decide)
  (he:starEach (e::es) X.env=(false,eval e X.env)::starEach es X.env:=by rfl)(hpl:(backTo pos (starEach es X.env)).any (·.1)=false:=by rfl):PE X (.Call (.Name x p) (e::es) [] pos) (tCB r t):=by
 intro pins s σ H Q I h
 refine wpAny_Call_Name_kw (jT I hg hm hv ?_ hn hdb)
 exact PyProof.Rows.callWith_type1 (thn (ha pos pins s σ H _ I h) fun us s1 ⟨vs,H1,I1,r1,q1⟩=>hc pins s1 σ H1 vs us Q I1 r1 q1) he hpl
end
end L2
namespace HT
open PySem PyProof.Rows
section
open PySem.SeqAt
open PySem.AutoSeq1 (wpAny_loadPart')
open PySem.MeetsSeq PySem.MeetsSeq2 PySem.MeetsSeq3
end
section
variable {prog:Program}{w:World}{A:Around}{E:Value→Shared→Prop}{s:Shared}
def sIx (n d:Nat):Option Int→Nat
 | none=>d
 | some v=>if v < 0 then (v+(n:Int)).toNat else min v.toNat n
theorem sIx_none (n d:Nat):sIx n d none=d:=rfl
theorem sIx_nat (n d k:Nat):sIx n d (some (k:Int))=min k n:=by
 show (if (k:Int) < 0 then ((k:Int)+(n:Int)).toNat else min (k:Int).toNat n)=min k n
 rw[if_neg (by omega),Int.toNat_natCast]
end
end HT
namespace L2
open PySem PySem.Spec PyProof.Rows
abbrev TO:=St→Hp→(Option Int→Hp→Prop)→Prop
def PO (X:Cx)(e:Option Expr)(t:TO):Prop :=
 ∀ (pins:List (Addr×Obj))(s:Shared)(σ:St)(H:Hp)(Q:Option Int→Hp→Prop),Inv X pins σ H s→t σ H Q →
  wpAny (model X.prog X.w) X.A (evalPart e X.env) (fun u s'=>∃ o H',Inv X pins σ H' s'∧IsPart u o∧Q o H') X.xe s
def tNoPart:TO:=fun _ H Q=>Q none H
def tPart (t:TE):TO:=fun σ H Q=>t σ H fun x H1=>∃ i,x=.int i∧Q (some i) H1
section
variable {X:Cx}{e:Expr}{te:TE}{lo hi:Option Expr}{tl th:TO}{pos p2:Pos}
theorem po_none:PO X none tNoPart:=by
 intro pins s σ H Q I h
 rw[evalPart_none]
 exact wpAny_pure ⟨none,H,I,.none,h⟩
theorem po_some (h:PE X e te):PO X (some e) (tPart te):=by
 intro pins s σ H Q I hw
 rw[evalPart_some]
 refine thn (h pins s σ H _ I hw) fun u s1 ⟨x,H1,I1,r1,q1⟩=>?_
 obtain⟨i,rfl,q⟩:=q1
 obtain⟨t,rfl⟩:=r1
 exact⟨some i,H1,I1,.int i t,q⟩
def SlR (X:Cx)(r:V→Option Int→Option Int→Hp→VK→Prop):Prop :=
 ∀ (pins:List (Addr×Obj))(s:Shared)(σ:St)(H:Hp)(x:V)(v vl vu:Value)(lo hi:Option Int)(sl:Addr)(Q:VK),Inv X pins σ H s→RelV x v→s.heap.IsSliceOf sl vl vu .none→IsPart vl lo→IsPart vu hi→r x lo hi H Q →
  ∃ T id,typeLookup (.type T) "__getitem__"=pure (some (.builtin id))∧s.TypeIs v T∧wpAny (model X.prog X.w) X.A (getItem v (.ref sl)) (EP X pins σ Q) X.xe s
def tSl (r:V→Option Int→Option Int→Hp→VK→Prop)(te:TE)(tl th:TO):TE:=fun σ H Q=>te σ H fun x H1=>tl σ H1 fun l H2=>th σ H2 fun u H3=>r x l u H3 Q
theorem pe_slice {r:V→Option Int→Option Int→Hp→VK→Prop}(hr:SlR X r)(he:PE X e te)(hl:PO X lo tl)(hu:PO X hi th):PE X (.Subscript e (.Slice lo hi none p2) pos) (tSl r te tl th):=by
 intro pins s σ H Q I h
 refine Subscript_ (thn (he pins s σ H _ I h) fun v s1 ⟨x,H1,I1,r1,q1⟩=>?_)
 refine wpAny_Slice (thn (hl pins s1 σ H1 _ I1 q1) fun vl s2 ⟨l,H2,I2,pl,q2⟩=>thn (hu pins s2 σ H2 _ I2 q2) fun vu s3 ⟨u,H3,I3,pu,q3⟩=>?_)
 rw[evalPart_none]
 refine wpAny_pure ?_
 have I4:Inv X pins σ H3 { s3 with heap:=s3.heap.push { cls:=.type "slice",data:=.fields #[vl,vu,.none] } }:=I3.kept (t':=s3.toks) fun b ob q=>Heap.get?_push_of_some _ q
 obtain⟨T,id,hT,ht,hg⟩:=hr pins { s3 with heap:=s3.heap.push { cls:=.type "slice",data:=.fields #[vl,vu,.none] } } σ H3 x v vl vu l u s3.heap.objs.size Q I4 r1 (Heap.IsSliceOf.new ..) pl pu q3
 show wpAny (model X.prog X.w) X.A (subscriptTail e (.Slice lo hi none p2) v (.ref s3.heap.objs.size)) (EP X pins σ Q) X.xe { s3 with heap:=s3.heap.push { cls:=.type "slice",data:=.fields #[vl,vu,.none] } }
 exact tail_any (ops:=[.ref s3.heap.objs.size,v]) ht hT hg (by with_unfolding_all rfl)
def cutV (xs:List V)(lo hi:Option Int):List V:=(xs.drop (HT.sIx xs.length 0 lo)).take (HT.sIx xs.length xs.length hi-HT.sIx xs.length 0 lo)
theorem cutV_length (xs:List V)(lo hi:Option Int):(cutV xs lo hi).length≤xs.length:=by
 unfold cutV
 rw[List.length_take,List.length_drop]
 omega
end
end L2
namespace L2
open PySem PySem.Spec PyProof.Rows
def ixN (n:Nat)(i:Int):Option Nat:=if 0≤i then (if i < n then some i.toNat else none) else if -(n:Int)≤i then some (i+n).toNat else none
def atI {α:Type}(xs:List α)(i:Int):Option α:=(ixN xs.length i).bind fun j=>xs[j]?
theorem ixN_seq {n:Nat}{i:Int}{j:Nat}(h:ixN n i=some j):seqIndex? i n=some j∧j < n∧-(n:Int)≤i∧i < n:=by
 unfold ixN at h
 by_cases h0:0≤i
 ·rw[if_pos h0] at h
  by_cases h1:i < n
  ·rw[if_pos h1] at h
   have e:i.toNat=j:=Option.some.inj h
   exact⟨by rw[seqIndex_of h0 h1,e],by omega,by omega,h1⟩
  ·rw[if_neg h1] at h;cases h
 ·rw[if_neg h0] at h
  by_cases h1:-(n:Int)≤i
  ·rw[if_pos h1] at h
   have e:(i+n).toNat=j:=Option.some.inj h
   exact⟨by rw[seqIndex_neg (by omega) h1,e],by omega,h1,by omega⟩
  ·rw[if_neg h1] at h;cases h
theorem atI_get {α:Type}{xs:List α}{i:Int}{v:α}(h:atI xs i=some v):∃ j,seqIndex? i xs.length=some j∧xs[j]?=some v∧j < xs.length∧-(xs.length:Int)≤i∧i < xs.length:=by
 unfold atI at h
 cases e:ixN xs.length i with
 | none=>rw[e] at h;cases h
 | some j =>
  rw[e] at h
  obtain⟨h1,h2,h3,h4⟩:=ixN_seq e
  exact⟨j,h1,h,h2,h3,h4⟩
theorem atI_nat {α:Type}{xs:List α}{j:Nat}{v:α}(h:xs[j]?=some v):atI xs (j:Int)=some v:=by
 have hj:j < xs.length:=(List.getElem?_eq_some_iff.mp h).1
 have e:ixN xs.length (j:Int)=some j:=by
  unfold ixN
  rw[if_pos (by omega),if_pos (by omega)];simp
 unfold atI;rw[e];exact h
def PlainIx (b:Expr):Prop:=∀ o i,subscripted b false o i=operate [o,i] (getItem o i)
def IxR (X:Cx)(r:R2):Prop :=
 ∀ (value slice:Expr)(pins:List (Addr×Obj))(s:Shared)(σ:St)(H:Hp)(x y:V)(v u:Value)(Q:VK),Inv X pins σ H s→RelV x v→RelV y u→r x y H Q →
  subscripted slice false v u=operate [v,u] (getItem v u)→wpAny (model X.prog X.w) X.A (subscriptTail value slice v u) (EP X pins σ Q) X.xe s
def MtR (X:Cx)(id:String)(r:V→List V→Hp→VK→Prop):Prop :=
 ∀ (pins:List (Addr×Obj))(s:Shared)(σ:St)(H:Hp)(x:V)(xs:List V)(v:Value)(us:List Value)(Q:VK),Inv X pins σ H s→RelV x v→Vals xs us→r x xs H Q →
  wpAny (model X.prog X.w) X.A (call (.builtin id) (v::us)) (EP X pins σ Q) X.xe s
section
variable {X:Cx}{a b:Expr}{ta tb:TE}{pos:Pos}
theorem vA {r:R2}(hr:IxR X r)(ha:PE X a ta)(hb:PE X b tb)(hs:PlainIx b):PE X (.Subscript a b pos) (tOp r ta tb):=by
 intro pins s σ H Q I h
 exact Subscript_ (binT ha hb I h fun v u s2 x y H2 I2 rx ry q=>hr a b pins s2 σ H2 x y v u Q I2 rx ry q (hs _ _))
def rIxL (K:PySem.W.Frag):R2:=fun x y H Q=>∃ p xs i v,x=.ref p∧y=.int i∧SqL K H p xs∧atI xs i=some v∧Q v H
def rIxT (K:PySem.W.Frag):R2:=fun x y H Q=>∃ p xs i v,x=.ref p∧y=.int i∧SqT K H p xs∧atI xs i=some v∧Q v H
theorem vD:IxR X (rIxL X.K):=by
 intro value slice pins s σ H x y v u Q I rx ry h hs
 obtain⟨p,xs,i,z,rfl,rfl,hq,he,q⟩:=h
 cases rx
 obtain⟨t,rfl⟩:=ry
 obtain⟨its,r,pl,hz⟩:=I.list hq
 obtain⟨j,h1,h2,h3,h4,h5⟩:=atI_get he
 obtain⟨w,ew,rw'⟩:=r.get h2
 have hl:=r.length
 have hn:=line63
 have fin:EP X pins σ Q w s:=⟨z,H,I,rw',q⟩
 by_cases h0:0≤i
 ·have hj:i.toNat=j:=by
   rw[seqIndex_of h0 h5] at h1
   exact Option.some.inj h1
  exact item_listR pl.isList h0 (by omega) (by rw[hj];simpa using ew) fin hs
 ·have hj:(i+(its.toArray.size:Int)).toNat=j:=by
   rw[seqIndex_neg (by omega) h4] at h1
   rw[List.size_toArray,← hl]
   exact Option.some.inj h1
  exact subscriptTail_builtinR (x:=w) pl.isList.typeIs slot_list_getitem.lookup
   (wpAny_getItem_list_neg (Q:=fun r s'=>r=w∧EP X pins σ Q r s') pl.isList (by omega) (by rw[List.size_toArray] <;> omega) (by omega) (by rw[hj];simpa using ew) ⟨rfl,fin⟩) hs
theorem vC:IxR X (rIxT X.K):=by
 intro value slice pins s σ H x y v u Q I rx ry h hs
 obtain⟨p,xs,i,z,rfl,rfl,hq,he,q⟩:=h
 cases rx
 obtain⟨t,rfl⟩:=ry
 obtain⟨its,r,pl,hz⟩:=I.tuple hq
 obtain⟨j,h1,h2,h3,h4,h5⟩:=atI_get he
 obtain⟨w,ew,rw'⟩:=r.get h2
 have hl:=r.length
 have hn:=line63
 have fin:EP X pins σ Q w s:=⟨z,H,I,rw',q⟩
 exact subscriptTail_builtinR (x:=w) pl.typeIs slot_tuple_getitem.lookup
  (getItem_tuple (j:=j) (Q:=fun r s'=>r=w∧EP X pins σ Q r s') pl (by omega) (by omega) (by rw[List.size_toArray,← hl];exact h1) (by simpa using ew) ⟨rfl,fin⟩) hs
theorem mapSeq_set (its:List Value)(n j:Nat)(u:Value):Obj.mapSeq (·.setIfInBounds j u) { cls:=.type "list",data:=.seq its.toArray n }={ cls:=.type "list",data:=.seq (its.set j u).toArray n }:=by
 simp [Obj.mapSeq]
theorem Inv.lst {pins:List (Addr×Obj)}{σ:St}{H:Hp}{s:Shared}{p:Addr}{xs:List V}(I:Inv X pins σ H s)(h:H p=some (.lst xs)) :
  ∃ (its:List Value)(n:Nat),Vals xs its∧s.heap.get? p=some { cls:=.type "list",data:=.seq its.toArray n }∧xs.length≤sizeLine:=by
 obtain⟨z,its,n,r,e⟩:=I.hok p _ h
 exact⟨its,n,r,e,z⟩
theorem Inv.lstUpd {pins:List (Addr×Obj)}{σ:St}{H:Hp}{s:Shared}{p:Addr}{xs ys:List V}{its its':List Value}{n n':Nat}{f:Obj→Obj}(I:Inv X pins σ H s)(h:H p=some (.lst xs))
  (ho:s.heap.get? p=some { cls:=.type "list",data:=.seq its.toArray n })(hf:f { cls:=.type "list",data:=.seq its.toArray n }={ cls:=.type "list",data:=.seq its'.toArray n' })(r:Vals ys its')(hz:ys.length≤sizeLine)(t:Nat) :
  Inv X pins σ (upd H p (.lst ys)) { s with heap:=s.heap.update p f,toks:=t }:=by
 have e:(s.heap.update p f).get? p=some { cls:=.type "list",data:=.seq its'.toArray n' }:=by
  rw[Heap.get?_update_self f ho (by rw[hf] <;> rfl),hf]
 refine I.write (x:=p) (e:=p) (by rw[h];trivial) (.inl rfl) (fun b u hb q=>(Heap.get?_update_other _ _ (Ne.symm hb)).trans q) ⟨_,e⟩ ?_
 exact⟨hz,its',n',r,e⟩
def rSetL:V→V→V→Hp→(Hp→Prop)→Prop:=fun o i v H Q=>∃ p xs k j,o=.ref p∧i=.int k∧H p=some (.lst xs)∧ixN xs.length k=some j∧Q (upd H p (.lst (xs.set j v)))
theorem set_list:PSet X rSetL:=by
 intro pins s σ H o i v ov iv u Q I ro ri rv h
 obtain⟨p,xs,k,j,rfl,rfl,hp,hj,q⟩:=h
 cases ro
 obtain⟨t,rfl⟩:=ri
 obtain⟨its,n,r,ho,hz⟩:=I.lst hp
 obtain⟨h1,h2,h3,h4⟩:=ixN_seq hj
 have hl:=r.length
 have hn:=line63
 have I':Inv X pins σ (upd H p (.lst (xs.set j v))) { s with heap:=s.heap.update p (Obj.mapSeq (·.setIfInBounds j u)) } :=
  I.lstUpd hp ho (mapSeq_set its n j u) (r.set rv j) (by rw[List.length_set];exact hz) s.toks
 by_cases h0:0≤k
 ·have hk:k.toNat=j:=by
   rw[seqIndex_of h0 h4] at h1
   exact Option.some.inj h1
  exact PySem.W.ki_setAt ho h0 (by omega) (by rw[List.size_toArray,← hl];exact h4) (by rw[hk];exact⟨_,I',q⟩)
 ·have hk:(k+(its.toArray.size:Int)).toNat=j:=by
   rw[seqIndex_neg (by omega) h3] at h1
   rw[List.size_toArray,← hl]
   exact Option.some.inj h1
  exact PySem.W.ki_setBack ho (by omega) (by rw[List.size_toArray,← hl];exact h3) (by omega) (by rw[hk];exact⟨_,I',q⟩)
theorem slice_bounds (lo hi:Option Int)(n:Nat):(sliceBounds lo hi none n).1=((HT.sIx n 0 lo:Nat):Int)∧(sliceBounds lo hi none n).2.1=((HT.sIx n n hi:Nat):Int)∧(sliceBounds lo hi none n).2.2=1:=by
 refine⟨?_,?_,rfl⟩
 ·cases lo with
  | none=>simp [sliceBounds,HT.sIx]
  | some i =>
   simp only [sliceBounds,HT.sIx,Option.getD_none,show (1:Int) > 0 by decide,if_true]
   by_cases h:i < 0
   ·simp only [h,if_true] <;> omega
   ·simp only [h,if_false] <;> omega
 ·cases hi with
  | none=>simp [sliceBounds,HT.sIx]
  | some i =>
   simp only [sliceBounds,HT.sIx,Option.getD_none,show (1:Int) > 0 by decide,if_true]
   by_cases h:i < 0
   ·simp only [h,if_true] <;> omega
   ·simp only [h,if_false] <;> omega
theorem slicePick_cut (its:List Value)(lo hi:Option Int):slicePick its.toArray lo hi none=((its.drop (HT.sIx its.length 0 lo)).take (HT.sIx its.length its.length hi-HT.sIx its.length 0 lo)).toArray:=by
 obtain⟨h1,h2,h3⟩:=slice_bounds lo hi its.toArray.size
 unfold slicePick
 rw[h1,h2,h3]
 simp only [sliceRange_one,pick_run,List.size_toArray] <;> rfl
def rSlL (K:PySem.W.Frag):V→Option Int→Option Int→Hp→VK→Prop:=fun x lo hi H Q=>∃ a xs,x=.ref a∧SqL K H a xs∧∀ p,H p=none→Q (.ref p) (upd H p (.lst (cutV xs lo hi)))
theorem sl_list:SlR X (rSlL X.K):=by
 intro pins s σ H x v vl vu lo hi sl Q I rx hs pl pu h
 obtain⟨a,xs,rfl,hx,q⟩:=h
 cases rx
 obtain⟨its,r,ht,hz⟩:=I.list hx
 have hlen:=r.length
 refine⟨"list",_,slot_list_getitem.lookup,ht.isList.typeIs,?_⟩
 refine wpAny_getItem_list_slice ht.isList hs pl pu .none (by simp) ?_ (by rw[List.size_toArray] <;> omega)
 rw[slicePick_cut,← hlen]
 refine⟨.ref s.heap.objs.size,_,I.laid (t':=s.toks) (o:=.lst (cutV xs lo hi)) (fun b ob q=>Heap.get?_push_of_some _ q) (Nat.le_refl _) ?_,rfl,q _ (I.hok.fresh (Nat.le_refl _))⟩
 exact⟨Nat.le_trans (cutV_length xs lo hi) hz,_,0,(r.drop (HT.sIx xs.length 0 lo)).take (HT.sIx xs.length xs.length hi-HT.sIx xs.length 0 lo),Heap.get?_push_size _ rfl⟩
def flatV:V→Bool
 | .non=>true
 | .bl _=>true
 | .int _=>true
 | .str _=>true
 | _=>false
def eqV:V→V→Bool
 | .non,.non=>true
 | .bl a,.bl b=>a == b
 | .bl a,.int b=>(if a then 1 else 0) == b
 | .int a,.bl b=>a == (if b then 1 else 0)
 | .int a,.int b=>a == b
 | .str a,.str b=>a == b
 | _,_=>false
theorem eqAt_V {A:Around}{s:Shared}{y x:V}{u v:Value}(ry:RelV y u)(rx:RelV x v)(fy:flatV y=true)(fx:flatV x=true):SeqAt.EqAt A s u v (eqV y x):=by
 cases y with
 | non =>
  cases ry
  cases x with
  | non=>cases rx;exact SeqAt.EqAt.same _
  | bl b=>cases rx;exact SeqAt.EqAt.none_bool b
  | int b=>obtain⟨t,rfl⟩:=rx;exact SeqAt.EqAt.none_int b t
  | str b=>obtain⟨t,rfl⟩:=rx;exact SeqAt.EqAt.none_str b t
  | _=>exact absurd (show false=true from fx) Bool.false_ne_true
 | bl a =>
  cases ry
  cases x with
  | non=>cases rx;exact SeqAt.EqAt.bool_none a
  | bl b=>cases rx;exact SeqAt.EqAt.bool_bool a b
  | int b=>obtain⟨t,rfl⟩:=rx;exact SeqAt.EqAt.bool_int a b t
  | str b=>obtain⟨t,rfl⟩:=rx;exact SeqAt.EqAt.bool_str a b t
  | _=>exact absurd (show false=true from fx) Bool.false_ne_true
 | int a =>
  obtain⟨t',rfl⟩:=ry
  cases x with
  | non=>cases rx;exact SeqAt.EqAt.int_none a t'
  | bl b=>cases rx;exact SeqAt.EqAt.int_bool a t' b
  | int b=>obtain⟨t,rfl⟩:=rx;exact SeqAt.EqAt.int_int a t' b t
  | str b=>obtain⟨t,rfl⟩:=rx;exact SeqAt.EqAt.int_str a t' b t
  | _=>exact absurd (show false=true from fx) Bool.false_ne_true
 | str a =>
  obtain⟨t',rfl⟩:=ry
  cases x with
  | non=>cases rx;exact SeqAt.EqAt.str_none a t'
  | bl b=>cases rx;exact SeqAt.EqAt.str_bool a t' b
  | int b=>obtain⟨t,rfl⟩:=rx;exact SeqAt.EqAt.str_int a t' b t
  | str b=>obtain⟨t,rfl⟩:=rx;exact SeqAt.EqAt.str_str a t' b t
  | _=>exact absurd (show false=true from fx) Bool.false_ne_true
 | _=>exact absurd (show false=true from fy) Bool.false_ne_true
def eqU (x:V)(u:Value):Bool:=match u with
 | .none=>eqV .non x
 | .bool b=>eqV (.bl b) x
 | .int i _=>eqV (.int i) x
 | .str z _=>eqV (.str z) x
 | _=>false
theorem eqU_of {x y:V}{u:Value}(r:RelV y u)(f:flatV y=true):eqU x u=eqV y x:=by
 cases y with
 | non=>cases r;rfl
 | bl b=>cases r;rfl
 | int i=>obtain⟨t,rfl⟩:=r;rfl
 | str z=>obtain⟨t,rfl⟩:=r;rfl
 | _=>exact absurd (show false=true from f) Bool.false_ne_true
theorem any_eqU {x:V}:∀ {xs:List V}{us:List Value},Vals xs us→xs.all flatV=true→us.any (eqU x)=xs.any fun y=>eqV y x
 | _,_,.nil,_=>rfl
 | y::xs,u::us,.cons r t,f=>by
  rw[List.all_cons,Bool.and_eq_true] at f
  rw[List.any_cons,List.any_cons,eqU_of r f.1,any_eqU t f.2]
theorem mem_eqAt {A:Around}{s:Shared}{x:V}{v:Value}(rx:RelV x v)(fx:flatV x=true):∀ {xs:List V}{us:List Value},Vals xs us→xs.all flatV=true→∀ u∈us,SeqAt.EqAt A s u v (eqU x u)
 | _,_,.nil,_=>fun u hu=>by cases hu
 | y::xs,u::us,.cons r t,f=>fun u' hu=>by
  rw[List.all_cons,Bool.and_eq_true] at f
  rcases List.mem_cons.mp hu with rfl | hu
  ·rw[eqU_of r f.1];exact eqAt_V r rx f.1 fx
  ·exact mem_eqAt rx fx t f.2 u' hu
def inV (x:V)(xs:List V):Bool:=xs.any fun y=>eqV y x
def rIn (K:PySem.W.Frag)(neg:Bool):R2:=fun x y H Q=>∃ p xs,y=.ref p∧(SqL K H p xs∨SqT K H p xs)∧flatV x=true∧xs.all flatV=true∧Q (.bl (if neg then !inV x xs else inV x xs)) H
theorem zCz:OpR X (compareOp .NotIn) (rIn X.K true):=by
 intro pins s σ H x y v u Q I rx ry h
 obtain⟨p,xs,rfl,hq,fx,fs,q⟩:=h
 cases ry
 rcases hq with hq | hq
 ·obtain⟨its,r,pl,hz⟩:=I.list hq
  refine SeqAt.notIn_listAt (eqU x) pl.isList (fun w hw=>mem_eqAt rx fx r fs w (by simpa using hw)) ⟨.bl _,H,I,rfl,?_⟩
  rw[show its.toArray.any (eqU x)=its.any (eqU x) by simp,any_eqU r fs]
  exact q
 ·obtain⟨its,r,pl,hz⟩:=I.tuple hq
  refine SeqAt.notIn_tupleAt (eqU x) pl (fun w hw=>mem_eqAt rx fx r fs w (by simpa using hw)) ⟨.bl _,H,I,rfl,?_⟩
  rw[show its.toArray.any (eqU x)=its.any (eqU x) by simp,any_eqU r fs]
  exact q
theorem zP:zEr X (.builtin "len") (fun xs H Q=>∃ p ys,xs=[.ref p]∧(SqL X.K H p ys∨SqT X.K H p ys)∧Q (.int ys.length) H):=by
 intro pins s σ H xs us Q I r h
 obtain⟨p,ys,rfl,hq,q⟩:=h
 obtain⟨u,rfl,rx⟩:=vals1 r
 cases rx
 have hn:=line63
 rcases hq with hq | hq
 ·obtain⟨its,r',pl,hz⟩:=I.list hq
  have hlen:=r'.length
  exact Calls.call_len_list pl.isList (by simp only [List.size_toArray] <;> omega) ⟨.int ys.length,H,I.tok _,⟨s.toks+1,by rw[List.size_toArray,hlen]⟩,q⟩
 ·obtain⟨its,r',pl,hz⟩:=I.tuple hq
  have hlen:=r'.length
  exact len_tuple pl (by simp only [List.size_toArray] <;> omega) ⟨.int ys.length,H,I.tok _,⟨s.toks+1,by rw[List.size_toArray,hlen]⟩,q⟩
theorem zAx:zEr X (.type "list") (fun xs H Q=>∃ p ys,xs=[.ref p]∧(SqL X.K H p ys∨SqT X.K H p ys)∧∀ l,H l=none→Q (.ref l) (upd H l (.lst ys))):=by
 intro pins s σ H xs us Q I r h
 obtain⟨p,ys,rfl,hq,q⟩:=h
 obtain⟨u,rfl,rx⟩:=vals1 r
 cases rx
 have fin:∀ (its:List Value),Vals ys its→ys.length≤sizeLine→∀ (h':Heap)(c':Nat),(∀ b o',s.heap.get? b=some o'→h'.get? b=some o') →
   h'.get? s.heap.objs.size=some { cls:=.type "list",dict:=none,data:=.seq its.toArray c',slots:=#[] }→EP X pins σ Q (.ref s.heap.objs.size) { s with heap:=h' }:=fun its r' hz h' c' kp e =>
  ⟨.ref s.heap.objs.size,_,I.laid (t':=s.toks) kp (Nat.le_refl _) (show wH X.prog X.w _ h' _ (.lst ys) from ⟨hz,its,c',r',e⟩),rfl,q _ (I.hok.fresh (Nat.le_refl _))⟩
 rcases hq with hq | hq
 ·obtain⟨its,r',pl,hz⟩:=I.list hq
  have hlen:=r'.length
  obtain⟨o,ho,hc,n,hd⟩:=pl.isList
  exact call_list_seq p (.inl rfl) ho hc hd (fun h' c' kp e=>fin its r' hz h' c' kp e) (by simp only [List.size_toArray] <;> omega)
 ·obtain⟨its,r',pl,hz⟩:=I.tuple hq
  have hlen:=r'.length
  obtain⟨o,ho,hc,n,hd⟩:=pl
  exact call_list_seq p (.inr rfl) ho hc hd (fun h' c' kp e=>fin its r' hz h' c' kp e) (by simp only [List.size_toArray] <;> omega)
theorem call_tuple_of:zEr X (.type "tuple") (fun xs H Q=>∃ p ys,xs=[.ref p]∧((SqL X.K H p ys∧∀ l,H l=none→Q (.ref l) (upd H l (.tup ys)))∨(SqT X.K H p ys∧Q (.ref p) H))):=by
 intro pins s σ H xs us Q I r h
 obtain⟨p,ys,rfl,h⟩:=h
 obtain⟨u,rfl,rx⟩:=vals1 r
 cases rx
 rcases h with ⟨hq,q⟩ | ⟨hq,q⟩
 ·obtain⟨its,r',pl,hz⟩:=I.list hq
  have hlen:=r'.length
  refine call_tuple_list pl.isList (fun h' kp=>?_) (by simp only [List.size_toArray] <;> omega)
  have I1:Inv X pins σ H { s with heap:=h' }:=I.kept (t':=s.toks) kp
  have I2:Inv X pins σ (upd H h'.objs.size (.tup ys)) { s with heap:=h'.push { cls:=.type "tuple",data:=.seq its.toArray } } :=
   I1.laid (t':=s.toks) (fun b o e=>Heap.get?_push_of_some _ e) (Nat.le_refl _) (show wH X.prog X.w _ _ _ (.tup ys) from ⟨hz,its,r',IsTup.new _ _⟩)
  exact⟨.ref h'.objs.size,_,I2,rfl,q _ (I1.hok.fresh (Nat.le_refl _))⟩
 ·obtain⟨its,r',pl,hz⟩:=I.tuple hq
  exact call_tuple_same pl ⟨.ref p,H,I,rfl,q⟩
def tyV (K:PySem.W.Frag)(T:String)(x:V)(H:Hp):Prop:=match x with
 | .str _=>T = "str"
 | .int _=>T = "int"
 | .ref p=>(T = "list"∧∃ xs,SqL K H p xs)∨(T = "tuple"∧∃ o,K.lookup p=some o∧o.cls=.type "tuple"∧o.dict=none) ∨
   (T = "dict"∧((∃ kvs,H p=some (.dK kvs))∨∃ kvs,H p=some (.dT kvs)))∨(T = "set"∧∃ S n,H p=some (.set S n))
 | _=>False
theorem tyV_is {pins:List (Addr×Obj)}{σ:St}{H:Hp}{s:Shared}{T:String}{x:V}{v:Value}(I:Inv X pins σ H s)(r:RelV x v)(ty:tyV X.K T x H) :
  s.TypeIs v T∧∀ a,v=.ref a→∃ ob,s.heap.get? a=some ob∧ob.dict=none:=by
 cases x with
 | str z =>
  obtain⟨t,rfl⟩:=r
  cases (show T = "str" from ty)
  exact⟨typeIs_str s z t,fun _ e=>nomatch e⟩
 | int i =>
  obtain⟨t,rfl⟩:=r
  cases (show T = "int" from ty)
  exact⟨typeIs_int s i t,fun _ e=>nomatch e⟩
 | ref p =>
  cases r
  rcases ty with ⟨rfl,xs,hq⟩ | ⟨rfl,o,hk,hc,hd⟩ | ⟨rfl,hk⟩ | ⟨rfl,S,n,hk⟩
  ·obtain⟨its,_,pl,_⟩:=I.list hq
   refine⟨pl.isList.typeIs,fun a e=>?_⟩
   cases e
   obtain⟨o,n,e,c,hd,_⟩:=pl
   exact⟨o,e,hd⟩
  ·refine⟨⟨o,I.kIn p o hk,hc⟩,fun a e=>?_⟩
   cases e
   exact⟨o,I.kIn _ o hk,hd⟩
  ·have z:∃ o,s.heap.get? p=some o∧o.ExactDict:=by
    rcases hk with ⟨kvs,hk⟩ | ⟨kvs,hk⟩
    ·obtain⟨_,_,_,_,o,_,_,e,ex,_⟩:=I.hok p _ hk
     exact⟨o,e,ex⟩
    ·obtain⟨_,_,_,_,o,_,_,e,ex,_⟩:=I.hok p _ hk
     exact⟨o,e,ex⟩
   obtain⟨o,e,ex⟩:=z
   refine⟨⟨o,e,ex.1⟩,fun a e2=>?_⟩
   cases e2
   exact⟨o,e,ex.2.1⟩
  ·obtain⟨o,_,_,_,e,ex,_⟩:=I.hok p _ hk
   refine⟨⟨o,e,ex.1⟩,fun a e2=>?_⟩
   cases e2
   exact⟨o,e,ex.2.1⟩
 | _=>exact False.elim ty
def tBM0 (K:PySem.W.Frag)(T:String)(r:V→List V→Hp→VK→Prop)(to:TE):TE:=fun σ H Q=>to σ H fun x H1=>tyV K T x H1∧r x [] H1 Q
def tBM (K:PySem.W.Frag)(T:String)(r:V→List V→Hp→VK→Prop)(to:TE)(t:TA):TE:=fun σ H Q=>to σ H fun x H1=>tyV K T x H1∧t σ H1 fun xs H2=>r x xs H2 Q
variable {o e:Expr}{es:List Expr}{to:TE}{t:TA}{name:Str}{apos cpos:Pos}{T id:String}{r:V→List V→Hp→VK→Prop}
theorem pe_bm0 (pa:PlainAttrs T)(slot:Slot T name id)(hty:typeOf (.builtin id)=pure (.type "method_descriptor"))(hm:MtR X id r)(ho:PE X o to)
  (hbase:attributeBase o name X.env (eval o X.env)=eval o X.env:=by rfl)(hline:(apos.endLine == cpos.line)=true:=by rfl):PE X (.Call (.Attribute o name apos) [] [] cpos) (tBM0 X.K T r to):=by
 intro pins s σ H Q I h
 refine wpAny_Call_method0_late hbase hline (thn (ho pins s σ H _ I h) fun v s1 ⟨x,H1,I1,r1,ty,q1⟩=>?_)
 obtain⟨h1,h2⟩:=tyV_is I1 r1 ty
 exact⟨T,id,pa,slot,hty,h1,h2,Calls.callWith_builtin rfl (PySem.evalArgs_none (hm pins s1 σ H1 x [] v [] Q I1 r1 .nil q1))⟩
theorem pe_bm (pa:PlainAttrs T)(slot:Slot T name id)(hty:typeOf (.builtin id)=pure (.type "method_descriptor"))(hm:MtR X id r)(ho:PE X o to)(ha:PA X (e::es) t)
  (hbase:attributeBase o name X.env (eval o X.env)=eval o X.env:=by rfl)
  (hfew:((backTo cpos (starEach (e::es) X.env)).all (fun x=>!x.1) && (backToKw cpos (keywordEach [] X.env)).all (fun x=>x.1.isSome)
   && decide ((e::es).length+([]:List Keyword).length+(if ([]:List Keyword).isEmpty then 0 else 1) < 30))=true:=by rfl)
  (hline:(apos.endLine == cpos.line)=true:=by rfl)(hs:starEach (e::es) X.env=(false,eval e X.env)::starEach es X.env:=by rfl)(hplain:(backTo cpos (starEach es X.env)).any (·.1)=false:=by rfl) :
  PE X (.Call (.Attribute o name apos) (e::es) [] cpos) (tBM X.K T r to t):=by
 intro pins s σ H Q I h
 refine wpAny_Call_method_late hbase hfew hline rfl (thn (ho pins s σ H _ I h) fun v s1 ⟨x,H1,I1,r1,ty,q1⟩=>?_)
 obtain⟨h1,h2⟩:=tyV_is I1 r1 ty
 refine⟨T,id,pa,slot,hty,h1,h2,?_⟩
 have hA:=ha cpos pins s1 σ H1 _ I1 q1
 rw[hs] at hA ⊢
 refine Calls.callWith_builtin (by show (false || (backTo cpos (starEach es X.env)).any (·.1))=false;rw[hplain] <;> rfl) (Calls.evalArgs_plain ?_)
 exact thn hA fun us s2 ⟨vs,H2,I2,r2,q2⟩=>hm pins s2 σ H2 x vs v us Q I2 r1 r2 q2
end
end L2
namespace L2
open PySem PySem.Spec PyProof.Rows
def MtM (X:Cx)(id:String)(r:V→List V→Hp→VK→Prop):Prop :=
 ∀ (pins:List (Addr×Obj))(s:Shared)(σ:St)(H:Hp)(x:V)(xs:List V)(v:Value)(us:List Value)(Q:VK),Inv X pins σ H s→RelV x v→Vals xs us→r x xs H Q →
  wpAny (model X.prog X.w) X.A (call (.builtin id) (v::us)) (EP X pins σ Q) X.xe s
theorem Vals.one:∀ {x:V}{us:List Value},Vals [x] us→∃ u,us=[u]∧RelV x u
 | _,_,.cons r .nil=>⟨_,rfl,r⟩
theorem Vals.two:∀ {x y:V}{us:List Value},Vals [x,y] us→∃ u v,us=[u,v]∧RelV x u∧RelV y v
 | _,_,_,.cons r (.cons q .nil)=>⟨_,_,rfl,r,q⟩
theorem Vals.zero:∀ {us:List Value},Vals [] us→us=[]
 | _,.nil=>rfl
theorem Vals.rep {xs:List V}{us:List Value}(h:Vals xs us):∀ k:Nat,Vals (List.replicate k xs).flatten (List.replicate k us).flatten
 | 0=>.nil
 | k+1=>by
  rw[List.replicate_succ,List.replicate_succ,List.flatten_cons,List.flatten_cons]
  exact Vals.append h (Vals.rep h k)
theorem foldl_rep (its:List Value):∀ (k:Nat)(acc:List Value),
  List.foldl (fun x1 x2=>x1 ++ x2) acc.toArray (List.replicate k its.toArray)=(acc ++ (List.replicate k its).flatten).toArray
 | 0,acc=>by simp
 | k+1,acc=>by
  have e:acc.toArray ++ its.toArray=(acc ++ its).toArray:=by simp
  have e2:(acc ++ its) ++ (List.replicate k its).flatten=acc ++ (List.replicate (k+1) its).flatten:=by
   rw[List.replicate_succ,List.flatten_cons,List.append_assoc]
  rw[← e2,← foldl_rep its k (acc ++ its),← e,List.replicate_succ,List.foldl_cons]
section
variable {X:Cx}{pins:List (Addr×Obj)}{σ:St}{H:Hp}{s:Shared}{l b:Addr}{xs ys zs:List V}
theorem Inv.lset {its its':List Value}{n:Nat}{f:Array Value→Array Value}{t':Nat}(I:Inv X pins σ H s)(hH:H l=some (.lst xs))
  (e:s.heap.get? l=some { cls:=.type "list",data:=.seq its.toArray n })(hf:f its.toArray=its'.toArray)(hv:Vals ys its')(hz:ys.length≤sizeLine) :
  Inv X pins σ (upd H l (.lst ys)) { s with heap:=s.heap.update l (Obj.mapSeq f),toks:=t' }:=by
 have q:=PySem.IsL.update e f
 rw[hf] at q
 refine I.write (x:=l) (e:=l) (by rw[hH];exact trivial) (.inl rfl) (fun b' u hb hu=>(Heap.get?_update_other s.heap (Obj.mapSeq f) (Ne.symm hb)).trans hu) ⟨_,q⟩ ?_
 exact⟨hz,its',_,hv,q⟩
theorem Inv.lnew {its:List Value}{t':Nat}(I:Inv X pins σ H s)(hv:Vals ys its)(hz:ys.length≤sizeLine) :
  Inv X pins σ (upd H s.heap.objs.size (.lst ys)) { s with heap:=s.heap.push { cls:=.type "list",data:=.seq its.toArray },toks:=t' } :=
 I.laid (fun _ _ q=>Heap.get?_push_of_some _ q) (Nat.le_refl _) ⟨hz,its,0,hv,Heap.get?_push_size _ rfl⟩
theorem Inv.fresh (I:Inv X pins σ H s):H s.heap.objs.size=none:=I.hok.fresh (Nat.le_refl _)
theorem Inv.lstM (I:Inv X pins σ H s)(hH:H l=some (.lst xs)):xs.length≤sizeLine∧∃ (its:List Value)(n:Nat),Vals xs its∧xs.length=its.length∧s.heap.get? l=some { cls:=.type "list",data:=.seq its.toArray n }:=by
 obtain⟨z,its,n,r,e⟩:=I.hok l _ hH
 exact⟨z,its,n,r,r.length,e⟩
theorem notLongL {n:Nat}(h:n≤sizeLine):Builtin.List.listTooLong n=false:=by
 unfold Builtin.List.listTooLong
 exact decide_eq_false (by omega)
end
section
variable {X:Cx}
def rAppend:V→List V→Hp→VK→Prop:=fun x vs H Q=>∃ l xs y,x=.ref l∧vs=[y]∧H l=some (.lst xs)∧xs.length < sizeLine∧Q .non (upd H l (.lst (xs ++ [y])))
theorem zBy:MtM X "list.append" rAppend:=by
 intro pins s σ H x vs v us Q I rx rv h
 obtain⟨l,xs,y,rfl,rfl,hH,hz,q⟩:=h
 cases rx
 obtain⟨u,rfl,ru⟩:=rv.one
 obtain⟨z,its,n,r,hl,e⟩:=I.lstM hH
 refine call_meets F.slot_list_append ⟨_,e,rfl⟩ F.entry_list_append (F.args_list_append_2 _ _) (PySem.list_append l its.toArray n u (by rw[List.size_toArray];omega)) ⟨e,?_⟩
 refine⟨.non,_,I.lset (its':=its ++ [u]) hH e (by simp) (r.append (.cons ru .nil)) ?_,rfl,q⟩
 rw[List.length_append,List.length_singleton]
 omega
def rExtend:V→List V→Hp→VK→Prop:=fun x vs H Q=>∃ l b xs zs,x=.ref l∧vs=[.ref b]∧H l=some (.lst xs)∧H b=some (.lst zs)∧xs.length+zs.length≤sizeLine∧Q .non (upd H l (.lst (xs ++ zs)))
theorem zCe:MtM X "list.extend" rExtend:=by
 intro pins s σ H x vs v us Q I rx rv h
 obtain⟨l,b,xs,zs,rfl,rfl,hH,hB,hz,q⟩:=h
 cases rx
 obtain⟨u,rfl,ru⟩:=rv.one
 cases ru
 obtain⟨z,its,n,r,hl,e⟩:=I.lstM hH
 obtain⟨z2,its2,n2,r2,hl2,e2⟩:=I.lstM hB
 have hsz:its.toArray.size+its2.toArray.size≤sizeLine:=by rw[List.size_toArray,List.size_toArray];omega
 have hlong:¬ (!its.toArray.isEmpty && Builtin.List.listTooLong (its.toArray.size+its2.toArray.size))=true:=by
  rw[notLongL hsz,Bool.and_false]
  exact Bool.false_ne_true
 refine call_meets F.slot_list_extend ⟨_,e,rfl⟩ F.entry_list_extend (F.args_list_extend_2 _ _)
  (AutoSeq1.list_extend_list_list_0 l its.toArray n b its2.toArray n2 hlong (by rw[List.size_toArray];omega) (by omega)) ⟨e,e2,?_⟩
 refine⟨.non,_,I.lset (its':=its ++ its2) hH e (by simp) (r.append r2) ?_,rfl,q⟩
 rw[List.length_append]
 omega
def rRep:R2:=fun x y H Q=>∃ l k xs,x=.ref l∧y=.int k∧H l=some (.lst xs)∧-(2^63)≤k∧k < 2^63∧xs.length*k.toNat≤sizeLine ∧
 ∀ p,H p=none→Q (.ref p) (upd H p (.lst (List.replicate k.toNat xs).flatten))
theorem len_rep {α:Type}(xs:List α)(k:Nat):(List.replicate k xs).flatten.length=k*xs.length:=by
 induction k with
 | zero=>simp
 | succ k ih=>rw[List.replicate_succ,List.flatten_cons,List.length_append,ih,Nat.succ_mul,Nat.add_comm]
theorem op_rep:OpR X (binaryOp .Mult) rRep:=by
 intro pins s σ H x y v u Q I rx ry h
 obtain⟨l,k,xs,rfl,rfl,hH,h1,h2,hz,q⟩:=h
 cases rx
 obtain⟨t,rfl⟩:=ry
 obtain⟨z,its,n,r,hl,e⟩:=I.lstM hH
 have hlen:its.toArray.size*k.toNat≤sizeLine:=by rw[List.size_toArray,← hl];exact hz
 have hcap:¬ its.toArray.size*k.toNat > (2^63-1)/8:=by
  have:(sizeLine:Nat)≤(2^63-1)/8:=by decide
  omega
 have hfit:¬ (!Builtin.List.listFitsIndex k)=true:=by
  rw[fitsIndex_both h1 h2]
  exact Bool.false_ne_true
 have hlong:¬ Builtin.List.listTooLong (its.toArray.size*k.toNat)=true:=by
  rw[notLongL hlen]
  exact Bool.false_ne_true
 have hnew:List.foldl (fun x1 x2=>x1 ++ x2) #[] (List.replicate (if its.toArray.isEmpty=true then 0 else k.toNat) its.toArray)=(List.replicate k.toNat its).flatten.toArray:=by
  have f0:∀ m:Nat,List.foldl (fun x1 x2=>x1 ++ x2) #[] (List.replicate m its.toArray)=(List.replicate m its).flatten.toArray:=fun m=>by
   have:=foldl_rep its m []
   rw[List.nil_append] at this
   exact this
  rw[f0]
  cases its with
  | nil=>simp
  | cons a r'=>rw[if_neg (by simp)]
 refine wpAny_binaryOp_repeat_ref (T:="list") (U:="int") (by decide) ⟨_,e,rfl⟩ (fun s'=>typeIs_int s' k t) noFill_list_mul F.fills_int_mul F.slot_int_rmul repeat_list F.slot_int_index.lookup
  (call_meets F.slot_int_rmul (typeIs_int s k t) F.entry_int_rmul (F.args_int_rmul_2 _ _) (int___rmul___int_list k t l its.toArray n)
   ⟨e,rfl,⟨_,e,rfl⟩,call_meets F.slot_list_mul ⟨_,e,rfl⟩ F.entry_list_mul (F.args_list_mul_2 _ _) (AutoListH.list___mul___list_int_3 l its.toArray n k t hfit hcap hlong) ⟨e,?_⟩⟩)
 rw[hnew]
 exact⟨.ref _,_,I.lnew (t':=s.toks) (r.rep k.toNat) (by rw[len_rep,Nat.mul_comm];exact hz),rfl,q _ I.fresh⟩
end
section
variable {prog:Program}{w:World}{A:Around}{E:Value→Shared→Prop}{s:Shared}
end
section
variable {X:Cx}
end
end L2
namespace Att
open PySem PySem.W PySem.Calls PyProof.Rows
theorem zEa {P:Params}{h:Heap}:∀ (ns:List Int)(vs:List Value),WellAll P h vs (ns.map WData.int)→IntsAre vs ns:=by
 intro ns
 induction ns with
 | nil =>
  intro vs w
  rw[List.map_nil] at w
  cases w
  exact .nil
 | cons n ns ih =>
  intro vs w
  rw[List.map_cons] at w
  cases w with
  | cons a b =>
   cases a
   exact .cons _ _ (ih _ b)
theorem script_of {l:OpenLaw}{n:Nat}(hn:l.most=some n){P:Params}{h:Heap}{args:List WData}{vals:List Value}
  (hpre:l.row.toRowW.claim.pre args=true)(hwl:WellAll P h vals args) :
  ∃ a vs ns,vals=[Value.ref a]∧args=[WData.list (ns.map WData.int)]∧h.get? a=some { cls:=.type "list",data:=.seq vs.toArray }∧IntsAre vs ns∧ns.length≤n:=by
 have hsh:WShape.hasAll [] args [.list .int]=true:=(pre_splitW hpre).1
 have hc:l.pre.holds [] { args:=args }=true:=(pre_splitW hpre).2
 obtain⟨d,r,rfl,h1,h2⟩:=hasAllW_cons hsh
 obtain rfl:=hasAllW_nil h2
 obtain⟨xs,rfl,h3⟩:=hasW_list h1
 obtain⟨ns,rfl⟩:=items_int h3
 have hlen:ns.length≤n:=by
  unfold OpenLaw.pre at hc
  have h4:(WTm.not (.lt (.lit (.int (n:Int))) (.len (.arg 0)))).holds [] { args:=[.list (ns.map .int)] }=true:=by
   have h4:=(holds_andW hc).1
   rw[hn] at h4
   exact h4
  have h5:=condW_of h4 (w_not (w_lt w_lit (w_len_list (w_arg rfl))))
  rw[List.length_map] at h5
  refine Nat.le_of_not_lt fun q=>?_
  have q':(n:Int) < ((ns.length:Nat):Int):=by omega
  first
   | (rw[decide_eq_true q'] at h5;exact absurd h5 (by decide))
   | (simp at h5;omega)
 cases hwl with
 | cons w1 w2 =>
  cases w2
  cases w1 with
  | list ho hall=>exact⟨_,_,ns,rfl,rfl,ho,zEa ns _ hall,hlen⟩
theorem post_true (l:OpenLaw)(args:List WData):l.row.toRowW.claim.post args (.bool true) args=true :=
 postW_of (r:=l.row.toRowW) (X:=(true == true))
  (show WShape.has [] (.bool true) .bool=true by first | rfl | decide | simp [WShape.has,WShape.arms,WShape.armsAll])
  (show (WTm.eq .res (.lit (.bool true))).value [] { args:=args,res:=some (.bool true),after:=args }=some (.bool (true == true)) from w_eq_bool (w_res rfl) w_lit) rfl
theorem attach_call {l:OpenLaw}{n:Nat}{q:Program}{loose:List Str}{XP:(Str→Option Value)→Heap→Prop}{YP:World→Heap→Prop}{d:DefRec}
  (hn:l.most=some n)(hdf:d.params.defaults=[])
  (call:∀ (w:World)(s₀ s₁:Shared)(mg mb:Str→Option Value)(fa:Addr)(o:Obj)(pm cd doc:Value)(a:Addr)(vs:List Value)(ns:List Int),
   Ground q loose [] XP w s₀ mg mb s₁.heap→YP w s₁.heap →
   s₁.heap.get? fa=some o→o.data=.func (docDef d.name d.params d.body d.scope pm cd doc)→s₁.heap.CodeRec cd d.name→mg d.name=some (.ref fa) →
   s₁.heap.get? a=some { cls:=.type "list",data:=.seq vs.toArray }→IntsAre vs ns→ns.length≤n→s₁.gens=#[] →
   codeAny (model l.prog w) callerA (.call (.ref fa) ⟨[.ref a],[]⟩) (fun r s'=>r=.ok (.ret (.bool true))∧OldK s₁.heap s'.heap∧s'.os=s₁.os∧AllBare s'.gens) s₁) :
  WalkO q loose XP YP l.row.toRowW d [] (fun f vs=>PySem.call f vs):=by
 intro w s₀ s₁ mg mb G Y fa o pm cd doc dV kV ho hd hcd hD hmg hg args vals as hpre hlay hrd hwl hlo
 obtain rfl:dV=.none:=Dflts.none hD hdf
 obtain rfl:kV=.none:=Dflts.noKw hD
 obtain⟨a,vs,ns,rfl,rfl,hobj,hints,hlen⟩:=script_of hn hpre hwl
 refine enter_call (codeAny_mono (call w s₀ s₁ mg mb fa o pm cd doc a vs ns G Y ho (fd_plain hd) hcd hmg hobj hints hlen hg) fun r s' hq=>?_)
 obtain⟨rfl,h2,h3,h4⟩:=hq
 exact⟨.inl ⟨.bool true,.bool true,[],rfl,fun _=>rfl,.bool true,post_true l _,fun _=>⟨List.Pairwise.nil,fun _ hm=>(nomatch hm)⟩⟩,h2,h3,h4⟩
section
variable {prog:Program}{w:World}{A:Around}{E:Value→Shared→Prop}{s:Shared}{K:Frag}
def zEl (h:Heap):Heap:={ h with objs:=#[] }
theorem zFo (h:Heap)(b:Addr):(zEl h).get? b=none:=by
 cases e:(zEl h).get? b with
 | none=>rfl
 | some o=>exact absurd (Heap.lt_size e) (Nat.not_lt_zero _)
def ledger (h:Heap)(L d:Addr):List (Addr×Obj):=(List.range h.objs.size).filterMap fun a=>if a=L∨a=d then none else (h.get? a).map fun o=>(a,o)
theorem zCs {h:Heap}{L d a:Addr}{o:Obj}:(a,o)∈ledger h L d↔a≠L∧a≠d∧h.get? a=some o:=by
 unfold ledger
 rw[List.mem_filterMap]
 constructor
 ·rintro⟨b,_,e⟩
  split at e
  ·cases e
  ·rename_i hb
   obtain⟨o',ho,e'⟩:=Option.map_eq_some_iff.mp e
   cases e'
   exact⟨fun q=>hb (.inl q),fun q=>hb (.inr q),ho⟩
 ·rintro⟨n1,n2,ho⟩
  refine⟨a,List.mem_range.mpr (Heap.lt_size ho),?_⟩
  rw[if_neg (show ¬ (a=L∨a=d) from fun q=>q.elim n1 n2),ho] <;> rfl
theorem fr_all {h:Heap}{L:Addr}{m:Str→Option Value}(n:h.Ns L m):Fr (zEl h) L h m :=
 ⟨n,fun b o e=>(by rw[zFo] at e;cases e),Nat.zero_le _⟩
end
end Att
namespace L2
open PySem PySem.Spec PyProof.Rows
theorem vals_ints:∀ {vs:List Value}{ns:List Int},IntsAre vs ns→Vals (ns.map V.int) vs
 | _,_,.nil=>.nil
 | _,_,.cons n t h=>.cons ⟨t,rfl⟩ (vals_ints h)
end L2
namespace L2
open PySem PySem.Spec PyProof.Rows
end L2
namespace L2
open PySem PySem.Spec PyProof.Rows
def zF (s:Stmt):Arguments:=match s with
 | .FunctionDef _ a _ _ _ _ _ _ _ _=>a
 | _=>{ posonlyargs:=[],args:=[],vararg:=none,kwonlyargs:=[],kw_defaults:=[],kwarg:=none,defaults:=[] }
def zE (s:Stmt):List Stmt:=match s with
 | .FunctionDef _ _ b _ _ _ _ _ _ _=>b
 | _=>[]
def zB (s:Stmt):Scope:=match s with
 | .FunctionDef _ _ _ _ _ _ sc _ _ _=>sc
 | _=>{ kind:=.function,names:=[],isGenerator:=false,isCoroutine:=false }
abbrev CX0:CXT:=fun _ _ _ _ _ _=>False
abbrev E0:XK:=fun _ _ _=>False
theorem pass0 {X:Cx}:Passes CX0 X E0:=fun _ _ _ _ _ _ _ h=>h.elim
structure Fun (K:PySem.W.Frag)(x qual:Str)(st:Stmt)(f:Addr)(fd:FuncData):Prop where
 ex:∃ (oc:Value)(od:Option Addr)(kV doc pm:Value)(an:Option Addr)(cdv ct:Value)(osl:Array (Option Value)),
  fd=PySem.W.fnOf x qual (zF st) (zE st) (zB st) .none kV doc pm an cdv ct∧K.lookup f=some ⟨oc,od,.func fd,osl⟩∧PySem.W.codeIn K cdv qual=true
 kp:PySem.W.keepIn K (.ref f)=true
section
variable {P:Program}{w:World}{K:PySem.W.Frag}{mg:Str→Option Value}{base:Heap}
theorem Fun.ok {x qual:Str}{st:Stmt}{f:Addr}{fd:FuncData}{N ps:List Str}{k:Nat}{sp:Sp}(F:Fun K x qual st f fd)(S:zV N ps (zB st))(len:∀ vs H Q E,sp vs H Q E→vs.length=ps.length)
  (hbody:∀ (cdv:Value)(A:Around)(outer:List Env)(s:Shared)(H:Hp)(vs:List V)(Q:VK)(E:XK),zDm k (A.deeper (envOfC qual (zB st) s.heap.objs.size f cdv))→sp vs H Q E →
   ∃ t,PSs (cxOf CX0 P w K mg base N qual (zB st) f cdv A outer s H E).nox (zE st) t∧t { nx:=fun _ H'=>Q .non H',rt:=Q } (start N vs) H):FnOk P w K mg base CX0 (k+1) f fd ps sp:=by
 obtain⟨oc,od,kV,doc,pm,an,cdv,ct,osl,rfl,lk,hcd⟩:=F.ex
 refine fn_of lk hcd S len fun A outer s H vs Q E hr hsp=>?_
 obtain⟨t,h,q⟩:=hbody cdv A outer s H vs Q E hr hsp
 exact⟨t,h.nox,q⟩
theorem Fun.binds {x qual:Str}{st:Stmt}{f:Addr}{fd:FuncData}{ps:List Str}(F:Fun K x qual st f fd)
  (h:∀ (kV doc pm:Value)(an:Option Addr)(cdv ct:Value)(us:List Value),us.length=ps.length→bindArgs (PySem.W.fnOf x qual (zF st) (zE st) (zB st) .none kV doc pm an cdv ct) ⟨us,[]⟩=pure (ps.zip us)):Binds K fd ps []:=by
 obtain⟨oc,od,kV,doc,pm,an,cdv,ct,osl,rfl,lk,hcd⟩:=F.ex
 exact .all (h kV doc pm an cdv ct)
theorem vB {x qual:Str}{st:Stmt}{f:Addr}{oc:Value}{od an:Option Addr}{osl:Array (Option Value)}{kV doc pm cdv ct:Value}(l:K.lookup f=some ⟨oc,od,.func (PySem.W.fnOf x qual (zF st) (zE st) (zB st) .none kV doc pm an cdv ct),osl⟩)
  (c:PySem.W.codeIn K cdv qual=true)(k:PySem.W.keepIn K (.ref f)=true):Fun K x qual st f (PySem.W.fnOf x qual (zF st) (zE st) (zB st) .none kV doc pm an cdv ct):=⟨⟨oc,od,kV,doc,pm,an,cdv,ct,osl,rfl,l,c⟩,k⟩
end
section
variable {X:Cx}
theorem pv (i:Nat){x:Str}{pos:Pos}(hN:X.N[i]?=some x:=by rfl)(hv:Vis X.env.scope x:=by first | exact Or.inl rfl | exact Or.inr (Or.inl rfl) | exact Or.inr (Or.inr rfl))(hd:(x == ("__debug__":Str))=false:=by decide)
  (hcd:(x == ("__classdict__":Str))=false:=by decide):PE X (.Name x pos) (tVar i):=pe_var hN hv hd hcd
end
theorem iteF {A B:Prop}(h:B):if false=true then A else B:=by
 rw[if_neg Bool.false_ne_true]
 exact h
theorem iteT {A B:Prop}(h:A):if true=true then A else B:=by
 rw[if_pos rfl]
 exact h
theorem jQ {c A B:Prop} [Decidable c] (h1:c→A)(h2:¬ c→B):if c then A else B:=by
 by_cases h:c
 ·rw[if_pos h]
  exact h1 h
 ·rw[if_neg h]
  exact h2 h
theorem iteNS {c A B:Prop} [Decidable c] (hc:c)(h:B):if (!decide c)=true then A else B:=by
 rw[decide_eq_true hc]
 exact iteF h
def zR (H H':Hp):Prop:=∀ b o,H b=some o→H' b=some o
theorem zR.refl (H:Hp):zR H H:=fun _ _ h=>h
theorem zR.trans {H H1 H2:Hp}(a:zR H H1)(b:zR H1 H2):zR H H2:=fun c o h=>b c o (a c o h)
theorem zR.free {H H':Hp}(e:zR H H'){l:Addr}(h:H' l=Option.none):H l=Option.none:=by
 cases q:H l with
 | none=>rfl
 | some o =>
  rw[e l o q] at h
  cases h
theorem zR.seq {K:PySem.W.Frag}{H H':Hp}{a:Addr}{xs:List V}(e:zR H H')(h:SqL K H a xs):SqL K H' a xs:=by
 rcases h with (h | ⟨o,h⟩) | h
 ·exact .inl (.inl (e _ _ h))
 ·exact .inl (.inr ⟨o,e _ _ h⟩)
 ·exact .inr h
end L2
set_option Elab.async false
set_option linter.all false
set_option maxRecDepth 100000
set_option maxHeartbeats 5000000
namespace L2
open PySem PySem.Spec PyProof.Rows
section
variable {A:Around}{prog:Program}{w:World}{s:Shared}{R:Result→Shared→Prop}
theorem compLoop_any {el tgt src:Expr}{tests:List Expr}{sc:Scope}{ps:Pos}{itv ac:Value}{env:Env}(J:Nat→Shared→Prop)
  (trn:∀ k t,J k t→wpAny (model prog w) A (pyNext itv) (fun z t₁=>match z with
   | none=>R (.ok .next) t₁
   | some v=>wpAny (model prog w) A (letOwnedTupleGo tgt itv v) (fun _ t₁=>wpAny (model prog w) A (assign tgt env v) (fun _ t₂ =>
     wpAny (model prog w) A (forIn tests true fun tst go=>if go=true then do let yes ← isTrue tst env (eval tst env);pure (ForInStep.yield yes) else pure (ForInStep.yield go)) (fun yes t₃ =>
      if yes=true then wpAny (model prog w) A (eval el env) (fun x t₄ =>
       wpAny (model prog w) A (call (.builtin "list.append") [ac,x]) (fun _ t₅=>∃ m,m < k∧J m t₅) (fun _ _=>False) t₄) (fun _ _=>False) t₃
      else ∃ m,m < k∧J m t₃) (fun _ _=>False) t₂) (fun _ _=>False) t₁) (fun _ _=>False) t₁) (fun _ _=>False) t)
  (k:Nat)(h:J k s):codeAny (model prog w) A (.compLoop (.ListComp el [⟨tgt,src,tests,0⟩] sc ps) 0 itv ac env) R s:=by
 refine codeAny_loop rfl J (fun k t hJ=>?_) k h
 refine (wpAny_noted (m:=compTurn (.ListComp el [⟨tgt,src,tests,0⟩] sc ps) 0 itv ac env) ?_:wpAny _ A _ _ _ t)
 rw[compTurn_list]
 refine wpAny_bind (wpAny_standAt (wpAny_bind (wpAny_mono (trn k t hJ) (fun z t₁ q₁=>?_) fun _ _ f=>f.elim)))
 cases z with
 | none=>exact wpAny_pure q₁
 | some v =>
  refine wpAny_bind (wpAny_mono q₁ (fun _ t₁ q₁=>?_) fun _ _ f=>f.elim)
  refine wpAny_bind (wpAny_mono q₁ (fun _ t₂ q₂=>wpAny_bind (wpAny_mono q₂ (fun yes t₃ q₃=>?_) fun _ _ f=>f.elim)) fun _ _ f=>f.elim)
  cases yes with
  | false=>exact wpAny_pure (And.intro rfl q₃)
  | true =>
   exact wpAny_bind (wpAny_bind (wpAny_mono q₃ (fun x t₄ q₄=>wpAny_bind (wpAny_mono q₄ (fun _ t₅ q₅=>wpAny_pure (wpAny_pure ⟨rfl,q₅⟩)) fun _ _ f=>f.elim)) fun _ _ f=>f.elim))
end
theorem wR {cells:List (Str×Addr)}:∀ x c,([]:List (Str×Addr)).lookup x=some c→cells.lookup x=some c:=fun _ _ h=>by cases h
theorem wA {cells r:List (Str×Addr)}{k:Str}{a:Addr}(h1:cells.lookup k=some a)(h2:∀ x c,r.lookup x=some c→cells.lookup x=some c) :
  ∀ x c,((k,a)::r).lookup x=some c→cells.lookup x=some c:=fun x c h=>by
 rw[List.lookup_cons] at h
 cases e:x == k with
 | true =>
  rw[e] at h
  have:x=k:=by simpa using e
  subst this
  cases h
  exact h1
 | false =>
  rw[e] at h
  exact h2 x c h
theorem zCy {env:Env}:∀ {names:List (Str×NameKind)}{x:Str},(∀ y∈names,y.2≠.cell) →
    ((names.map fun (n,k)=>if (k == NameKind.free && env.scope.kind == .function && env.kindOf n == some .cell) then (n,NameKind.cell) else (n,k)).lookup x=some .cell ∨
     (names.map fun (n,k)=>if (k == NameKind.free && env.scope.kind == .function && env.kindOf n == some .cell) then (n,NameKind.cell) else (n,k)).lookup x=some .free)→(x,NameKind.free)∈names
  | [],x,_,h=>by simp at h
  | (n,k)::r,x,hc,h=>by
    have ih:=@zCy env r x (fun y hy=>hc y (List.mem_cons_of_mem _ hy))
    rw[List.map_cons] at h
    dsimp only at h
    by_cases c:(k == NameKind.free && env.scope.kind == .function && env.kindOf n == some .cell)=true
    · have hk:k=.free:=by
        have:=(Bool.and_eq_true_iff.mp (Bool.and_eq_true_iff.mp c).1).1
        cases k <;> first | rfl | (exact absurd this (by decide))
      rw[if_pos c,List.lookup_cons] at h
      cases e:x == n with
      | true =>
        have:x=n:=by simpa using e
        subst this;subst hk
        exact List.mem_cons_self
      | false =>
        rw[e] at h
        exact List.mem_cons_of_mem _ (ih h)
    · rw[if_neg c,List.lookup_cons] at h
      cases e:x == n with
      | true =>
        have:x=n:=by simpa using e
        subst this
        rw[e] at h
        rcases h with h | h
        · exact absurd (Option.some.inj h) (hc (x,k) List.mem_cons_self)
        · have:=Option.some.inj h
          subst this;exact List.mem_cons_self
      | false =>
        rw[e] at h
        exact List.mem_cons_of_mem _ (ih h)
theorem wT {names:List (Str×NameKind)}{cl:List (Str×Addr)}(h:names.all (fun y=>!(y.2 == NameKind.free) || (cl.lookup y.1).isSome)=true):∀ y∈names,y.2=.free→∃ c,cl.lookup y.1=some c:=fun y hy e=>by
 have q:=List.all_eq_true.mp h y hy
 rw[e] at q
 exact Option.isSome_iff_exists.mp (by simpa using q)
theorem wP {α:Type}{F:α→Prop}:∀ p∈([]:List α),F p:=fun _ h=>(nomatch h)
theorem v6 {α:Type}{F:α→Prop}{p:α}{l:List α}(h:F p)(r:∀ q∈l,F q):∀ q∈p::l,F q:=fun q hq=>by
 rcases List.mem_cons.mp hq with e | e
 ·rw[e];exact h
 ·exact r q e
def zBh (X:Cx)(scope:Scope)(cl:List (Str×Addr))(N':List Str)(C:Addr)(s:Shared)(H:Hp)(fp:List Addr):Cx where
 prog:=X.prog
 w:=X.w
 K:=X.K
 mg:=X.mg
 base:=X.base
 A:=X.A
 N:=N'
 s₀:=s
 H₀:=H
 env:=compEnvC scope cl C X.env
 outer:=X.stack
 stack:=X.stack
 ex:=fp
 fn:=fun _=>false
 calm:=X.calm
 pn:=[]
 xe:=fun _ _=>False
def PTs (X:Cx)(ifs:List Expr)(t:TT):Prop :=
 ∀ (pins:List (Addr×Obj))(s:Shared)(σ:St)(H:Hp)(Q:Bool→Hp→Prop),Inv X pins σ H s→t σ H Q →
  wpAny (model X.prog X.w) X.A (forIn ifs true fun c r=>if r=true then do let ok ← isTrue c X.env (eval c X.env);pure (ForInStep.yield ok) else pure (ForInStep.yield r)) (TP X pins σ Q) X.xe s
def tYes:TT:=fun _ H Q=>Q true H
theorem jU {X:Cx}:PTs X [] tYes:=fun _ _ _ H _ I h=>wpAny_tests_nil ⟨H,I,h⟩
theorem pts_one {X:Cx}{c:Expr}{t:TT}(h:PT X c t):PTs X [c] t:=fun pins s σ H Q I q=>wpAny_tests_one (h pins s σ H Q I q)
def zBg (cap:List (Str×Nat))(k:Nat)(σ:St):St:=cap.map (fun p=>(σ[p.2]?).join) ++ List.replicate k none
def zFm (J:It)(g:TG)(tc:TT)(te:TE)(σ':St)(Q:VK)(H1:Hp):Prop :=
 ∃ W:Nat→Nat→List V→Hp→Prop,(∃ m,W 0 m [] H1)∧∀ i m ys H,W i m ys H →
  (J.stop i H∧∀ D,H D=none→Q (.ref D) (upd H D (.lst ys))) ∨
  (J.go i H∧ys.length < sizeLine∧∃ N:List V→Hp→Prop,(∀ ys' H',N ys' H'→∃ m',m' < m∧W (i+1) m' ys' H') ∧
   ∀ x H',J.yld i H x H'→g x σ' H' fun σ2 H2=>tc σ2 H2 fun b H3=>if b=true then te σ2 H3 fun y H4=>N (ys ++ [y]) H4 else N ys H3)
def tComp (cap:List (Str×Nat))(k:Nat)(wi:TI)(g:TG)(tc:TT)(te:TE):TE:=fun σ H Q=>wi σ H fun J H1=>zFm J g tc te (zBg cap k σ) Q H1
def Leaves (n:Nat)(g:TG):Prop:=∀ x σ H Q,g x σ H Q→g x σ H fun σ2 H2=>(σ2.length=σ.length∧∀ j,j < n→σ2[j]?=σ[j]?)∧Q σ2 H2
theorem vQ {n i:Nat}(h:n≤i):Leaves n (gName i):=fun x σ H Q q=>⟨⟨by simp,fun j hj=>by rw[List.getElem?_set_ne (by omega)]⟩,q⟩
abbrev lstO (us:List Value):Obj:={ cls:=.type "list",data:=.seq us.toArray us.length }
structure Fin (X:Cx)(pins:List (Addr×Obj))(H:Hp)(s:Shared)(C:Addr):Prop where
 none:H C=Option.none
 loc:C≠X.env.locals
 sz:X.s₀.heap.objs.size≤C
 cel:∀ x c,X.env.cells.lookup x=some c→c≠C
 pin:∀ p∈X.pn ++ pins,p.1≠C
 ns:∃ m,s.heap.Ns C m
theorem Fin.go {X:Cx}{pins:List (Addr×Obj)}{σ:St}{H:Hp}{s:Shared}{C:Addr}(f:Fin X pins H s C)(I:Inv X pins σ H s){h':Heap}(sb:Heap.SameBut C s.heap h'):Inv X pins σ H { s with heap:=h' } :=
 I.turned (t':=s.toks) (it:=C) (fun b o hb e=>(sb.2 b hb).trans e) f.none f.loc (.inr f.sz) f.cel f.pin
theorem comp_core {X:Cx}{elt iter tg:Expr}{ifs:List Expr}{scope:Scope}{pos pos':Pos}{cl:List (Str×Addr)}{cap:List (Str×Nat)}{tgs:List Str}{wi:TI}{g:TG}{tc:TT}{te:TE}
  (hc:X.calm=true)(hclos:closureFor scope X.env=pure cl)(hkind:scope.kind=.function)
  (hnames:∀ x∈scope.names,x.2=.local→scope.names.lookup x.1=some .local)(hcell:∀ y∈scope.names,y.2≠.cell)
  (hfree:∀ y∈scope.names,y.2=.free→∃ c,cl.lookup y.1=some c)
  (hsub:∀ x c,cl.lookup x=some c→X.env.cells.lookup x=some c)
  (hcap:∀ p∈cap,X.N[p.2]?=some p.1∧(X.env.kindOf p.1=some .cell∨X.env.kindOf p.1=some .free)∧((relabel scope X.env).names.lookup p.1=some .cell∨(relabel scope X.env).names.lookup p.1=some .free)∧∃ c,cl.lookup p.1=some c)
  (hl:Leaves cap.length g)(hi:PI X tg iter wi)
  (hb:∀ C s H fp,PG (zBh X scope cl (cap.map (·.1) ++ tgs) C s H fp) tg g∧PTs (zBh X scope cl (cap.map (·.1) ++ tgs) C s H fp) ifs tc∧PE (zBh X scope cl (cap.map (·.1) ++ tgs) C s H fp) elt te)
  (hs:∀ x,foldedSetIterable iter X.env x=pure x)
  {pins:List (Addr×Obj)}{s:Shared}{σ:St}{H:Hp}{Q:VK}{Qp:Value→Shared→Prop}{use:Option (Value→Sem Unit)}(I:Inv X pins σ H s)(h:tComp cap tgs.length wi g tc te σ H Q)
  (fin:∀ D C H' s',Inv X pins σ H' s'→Fin X pins H' s' C→Q (.ref D) H'→compPost (model X.prog X.w) X.A X.xe use Qp (.ref D) C (.ok .next) s') :
  wpAny (model X.prog X.w) X.A (comprehension (.ListComp elt [⟨tg,iter,ifs,0⟩] scope pos) scope X.env pos' (newList []) false (eval iter X.env) use) Qp X.xe s:=by
 refine wpAny_comprehension_free (g:=⟨tg,iter,ifs,0⟩) (gs:=[]) rfl hs hclos hkind hnames ?_
 refine thn (hi pins s σ H _ I h) fun v s1 h1=>thn h1 fun itv s2 h2=>?_
 obtain⟨it,fp,tn,J,H2,e,I2,T,st2,f2,W,⟨m0,w0⟩,turn⟩:=h2
 subst e
 refine wpAny_newObj_type (wpAny_newFunctionEnv hcell (fun y hy=>(by simp at hy)) (fun h₁ hns₁ hsb₁=>?_) hkind)
 dsimp only at hns₁ hsb₁ ⊢
 generalize hH2:s2.heap.push { cls:=.type "list",dict:=none,data:=.seq ([]:List Value).toArray }=HH at hns₁ hsb₁ ⊢
 have hC:HH.objs.size=s2.heap.objs.size+1:=by rw[← hH2,Heap.size_push]
 have hDC:s2.heap.objs.size≠HH.objs.size:=by rw[hC];exact Nat.ne_of_lt (Nat.lt_succ_self _)
 have below:∀ b,b < s2.heap.objs.size→b≠HH.objs.size∧b≠s2.heap.objs.size:=fun b hb=>⟨by rw[hC];exact Nat.ne_of_lt (Nat.lt_succ_of_lt hb),Nat.ne_of_lt hb⟩
 have old:∀ b o,s2.heap.get? b=some o→h₁.get? b=some o:=fun b o e=>hsb₁.extBut b o (below b (Heap.lt_size e)).1 (Heap.get?_push_of_some _ (hH2▸Heap.get?_push_of_some _ e))
 have hacc:h₁.get? s2.heap.objs.size=some (lstO []):=hsb₁.extBut _ _ hDC (Heap.get?_push_of_some _ (hH2▸Heap.get?_push_size _ rfl))
 have fpold:∀ b∈fp,b < s2.heap.objs.size:=fun b hb=>let ⟨o,e,_⟩:=T.obj _ _ st2 b hb;Heap.lt_size e
 have celo:∀ x c,cl.lookup x=some c→c < s2.heap.objs.size:=fun x c e=>let ⟨v,q⟩:=I2.cell x c (hsub x c e);q.lt
 have frold:∀ b∈frs X.stack,b < s2.heap.objs.size:=fun b hb=>by
  obtain⟨_,o,ho,_⟩:=I2.stack.mem hb
  exact Heap.lt_size ho
 generalize hX:zBh X scope cl (cap.map (·.1) ++ tgs) HH.objs.size s2 H2 fp=X'
 have ok':X'.Ok:=by
  subst hX
  refine { mod:=I2.ok.mod,kind:=hkind,glob:=I2.ok.glob,blt:=I2.ok.blt,above:=?_,inj:=fun x y c a b=>I2.ok.inj x y c (hsub x c a) (hsub y c b),has:=?_,cab:=fun x c h=>(nomatch h),hd:=I2.ok.hd,frames:=I2.ok.frames,stk:=.inl rfl,exf:=?_,bs:=I2.bs,bsz:=Nat.le_trans I2.ok.bsz I2.sz,noex:=?_,exfs:=?_,funs:=I2.stack,frf:=I2.stkFree }
  ·show s2.heap.objs.size≤HH.objs.size
   rw[hC];exact Nat.le_succ _
  ·intro x hx
   exact hfree (x,.free) (zCy hcell hx) rfl
  ·intro b hb
   exact⟨(below b (fpold b hb)).1,fun x c e=>(f2 b hb).2.2.2.2.1 x c (hsub x c e)⟩
  ·intro b o e hb
   rcases (f2 b hb).2.2.2.1 with z | z
   ·exact I2.ok.noex b o e z
   ·exact absurd (Nat.lt_of_lt_of_le (Heap.lt_size (I2.ok.bs b o e).1) z) (Nat.lt_irrefl _)
  ·intro b hb hm
   rcases List.mem_cons.mp (I2.stkSub b hm) with z | z
   ·exact (f2 b hb).2.1 z
   ·exact (f2 b hb).2.2.1 z
 have Inv0:Inv X' [(s2.heap.objs.size,lstO [])] (zBg cap tgs.length σ) H2 { s2 with heap:=h₁,toks:=s2.toks+([]:List (Str×Value)).length }:=by
  subst hX
  refine⟨ok',rfl,I2.bare,Un.kept old,⟨_,hns₁,?_⟩,fun x c e=>?_,I2.hok.fresh (by rw[hC];exact Nat.le_succ _),fun x c e=>I2.freeC x c (hsub x c e),fun p hp=>?_,I2.hok.kept old,?_⟩
  ·intro j y v e1 e2 e3
   have e1':(cap.map (·.1) ++ tgs)[j]?=some y:=e1
   by_cases hj:j < cap.length
   ·unfold zBg at e2
    rw[List.getElem?_append_left (by simpa using hj),List.getElem?_map] at e2
    rw[List.getElem?_append_left (by simpa using hj),List.getElem?_map] at e1'
    rw[List.getElem?_eq_getElem hj] at e1' e2
    have ey:cap[j].1=y:=by simpa using e1'
    have ev:(σ[cap[j].2]?).join=some v:=by simpa using e2
    obtain⟨c1,c2,c3,c,c4⟩:=hcap cap[j] (List.getElem_mem hj)
    have ev':σ[cap[j].2]?=some (some v):=by
     cases q:σ[cap[j].2]? with
     | none=>rw[q] at ev;cases ev
     | some z=>rw[q] at ev;exact congrArg some ev
    rw[ey] at c1 c2 c3 c4
    obtain⟨m,hn,hl'⟩:=I2.loc
    have vis:Vis X.env.scope y:=by
     rcases c2 with c2 | c2
     ·exact .inr (.inl c2)
     ·exact .inr (.inr c2)
    obtain⟨u,ru,lu⟩:=hl' _ y v c1 ev' vis
    refine⟨u,ru,.inr ⟨c3,c,c4,?_⟩⟩
    rcases lu with ⟨k,_⟩ | ⟨_,c',e',q⟩
    ·rcases c2 with c2 | c2 <;> (rw[k] at c2;cases c2)
    ·rw[hsub y c c4] at e'
     cases e'
     obtain⟨o,ho,hd⟩:=q
     exact⟨o,old _ _ ho,hd⟩
   ·unfold zBg at e2
    rw[List.getElem?_append_right (by simpa using hj),List.getElem?_replicate] at e2
    split at e2 <;> cases e2
  ·obtain⟨v,o,ho,hd⟩:=I2.cell x c (hsub x c e)
   exact⟨v,o,old _ _ ho,hd⟩
  ·have hp':p∈([(s2.heap.objs.size,lstO [])]:List (Addr×Obj)):=hp
   obtain rfl:=List.mem_singleton.mp hp'
   refine⟨hacc,I2.hok.fresh (Nat.le_refl _),hDC,fun z=>Nat.lt_irrefl _ (frold _ z),fun v z=>?_⟩
   have z':Data.seq _ _=Data.cell v:=z
   cases z'
  ·show (zBg cap tgs.length σ).length=(cap.map (·.1) ++ tgs).length
   unfold zBg
   simp
 have fpX:∀ {us:List Value}{H':Hp},(∀ b∈fp,H' b=none)→∀ b∈fp,FpOk X' [(s2.heap.objs.size,lstO us)] H' b:=by
  subst hX
  intro us H' hn b hb
  refine⟨hn b hb,(below b (fpold b hb)).1,fun z=>ok'.exfs b hb z,.inl hb,fun x c e=>(f2 b hb).2.2.2.2.1 x c (hsub x c e),fun p hp=>?_⟩
  have hp':p∈([(s2.heap.objs.size,lstO us)]:List (Addr×Obj)):=hp
  obtain rfl:=List.mem_singleton.mp hp'
  exact Ne.symm (below b (fpold b hb)).2
 have eP:X'.prog=X.prog:=by subst hX;rfl
 have eW:X'.w=X.w:=by subst hX;rfl
 have eK:X'.K=X.K:=by subst hX;rfl
 have eA:X'.A=X.A:=by subst hX;rfl
 have eE:X'.env=compEnvC scope cl HH.objs.size X.env:=by subst hX;rfl
 have eF:X'.fs=frs X.stack:=by subst hX;rfl
 have eX:X'.ex=fp:=by subst hX;rfl
 have eH:X'.H₀=H2:=by subst hX;rfl
 have eS:X'.s₀=s2:=by subst hX;rfl
 have ec:X'.calm=true:=by subst hX;exact hc
 have epn:X'.pn=[]:=by subst hX;rfl
 have exe:X'.xe=fun _ _=>False:=by subst hX;rfl
 obtain⟨hg,ht,he⟩:PG X' tg g∧PTs X' ifs tc∧PE X' elt te:=by subst hX;exact hb _ _ _ _
 have loop:codeAny (model X.prog X.w) X.A (.compLoop (.ListComp elt [⟨tg,iter,ifs,0⟩] scope pos) 0 (.ref it) (.ref s2.heap.objs.size) (compEnvC scope cl HH.objs.size X.env))
   (compPost (model X.prog X.w) X.A X.xe use Qp (.ref s2.heap.objs.size) HH.objs.size) { s2 with heap:=h₁,toks:=s2.toks+([]:List (Str×Value)).length }:=by
  refine compLoop_any (fun n s'=>∃ i ys us H',Inv X' [(s2.heap.objs.size,lstO us)] (zBg cap tgs.length σ) H' s'∧Vals ys us∧ys.length≤sizeLine∧tn i s'.heap∧(∀ b∈fp,H' b=none)∧W i n ys H') ?_ m0
   ⟨0,[],[],H2,Inv0,.nil,Nat.zero_le _,T.keep _ _ _ st2 fun b _ o e=>old b o e,fun b hb=>(f2 b hb).1,w0⟩
  rintro n s3 ⟨i,ys,us,H3,I3,rv,hz,st3,fr3,w3⟩
  rcases turn i n ys H3 w3 with ⟨stop,qn⟩ | ⟨go,hlen,N,hN,step⟩
  ·have d:=T.done X' eP eW eK ec i _ s3 _ H3 (fun _ _=>False) I3 (fpX fr3) st3 stop
   rw[eA] at d
   refine thn d fun r s4 ⟨hr,I4⟩=>?_
   subst hr
   obtain⟨m,hn,_⟩:=id I4.loc
   rw[eE] at hn
   have pD:=I4.pin (s2.heap.objs.size,lstO us) (by rw[epn];simp)
   have fC:H3 HH.objs.size=none:=by have:=I4.free;rw[eE] at this;exact this
   have un:=I4.base
   rw[eF,eX,eH,eS] at un
   have nD:∀ b o,s2.heap.get? b=some o→b≠s2.heap.objs.size:=fun b o e=>(below b (Heap.lt_size e)).2
   have fD2:H2 s2.heap.objs.size=none:=I2.hok.fresh (Nat.le_refl _)
   have leC:s2.heap.objs.size≤HH.objs.size:=by rw[hC];exact Nat.le_succ _
   refine fin s2.heap.objs.size HH.objs.size (upd H3 s2.heap.objs.size (.lst ys)) s4 (I2.call' (ch:=fp) ?_ ?_ ?_ I4.bare ?_)
    ⟨by rw[zL (Ne.symm hDC)];exact fC,Ne.symm (below _ I2.lt).1,Nat.le_trans I2.sz leC,fun x c e=>?_,fun p hp=>(below _ (Heap.lt_size (I2.pin p hp).1)).1,⟨m,hn⟩⟩ (qn _ pD.2.1)
   ·have:=I4.os;rw[eS] at this;exact this
   ·refine⟨un.keep,un.slot,fun b o e n hx=>?_,un.there,fun b xs q=>?_,fun b o u q=>?_,fun b ps q=>?_⟩
    ·rw[zL (nD b o e)];exact un.free b o e n hx
    ·rw[zL (zJ q fD2)];exact un.tups b xs q
    ·rw[zL (zJ q fD2)];exact un.frzs b o u q
    ·rw[zL (zJ q fD2)];exact un.tbls b ps q
   ·have hok:=I4.hok
    rw[eP,eW] at hok
    intro b u e
    by_cases hb:b=s2.heap.objs.size
    ·subst hb
     rw[zD] at e
     cases e
     exact⟨hz,us,us.length,rv,pD.1⟩
    ·rw[zL hb] at e
     exact (hok b u e).stay (fun c v hcc q=>q) (fun c q=>by rw[zL (zJ q pD.2.1)];exact q) fun c xs q=>by rw[zL (zJ q pD.2.1)];exact q
   ·exact fun b hb=>⟨(f2 b hb).2.2.2.1,(f2 b hb).2.1,(f2 b hb).2.2.2.2.1,(f2 b hb).2.2.2.2.2⟩
   ·obtain⟨v,q⟩:=I2.cell x c e
    exact (below c q.lt).1
  ·have d:=T.item X' eP eW eK ec i _ s3 _ H3 (fun _ _=>False) I3 (fpX fr3) st3 go
   rw[eA] at d
   refine thn d fun r s4 ⟨u,hr,h4⟩=>?_
   subst hr
   refine thn h4 fun _ s5 ⟨x,H5,I5,r5,y5,st5,fr5⟩=>?_
   have I5':=I5.pinned (fpX fr5) (T.obj _ _ st5)
   have a6:=hg _ s5 _ H5 x u _ I5' r5 (hl x _ H5 _ (step x H5 y5))
   rw[eP,eW,eA,eE,exe] at a6
   refine thn a6 fun _ s6 ⟨σ6,H6,I6,⟨kl,kj⟩,q6⟩=>?_
   have a7:=ht _ s6 σ6 H6 _ I6 q6
   rw[eP,eW,eA,eE,exe] at a7
   refine thn a7 fun ok s7 ⟨H7,I7,q7⟩=>?_
   have wk:∀ {pl:List (Addr×Obj)}{H':Hp}{s':Shared},Inv X' pl σ6 H' s'→Inv X' [] (zBg cap tgs.length σ) H' s':=fun {pl H' s'} I' =>
    (I'.weak kl.symm fun j v e=>by
     by_cases hj:j < cap.length
     ·rw[kj j hj];exact e
     ·unfold zBg at e
      rw[List.getElem?_append_right (by simpa using hj),List.getElem?_replicate] at e
      split at e <;> cases e).zEk fun p hp=>(nomatch hp)
   have keepI:∀ {H':Hp}{s':Shared},Inv X' ([(s2.heap.objs.size,lstO us)] ++ pinsAt fp s5.heap) σ6 H' s'→(∀ b∈fp,∀ o,s5.heap.get? b=some o→s'.heap.get? b=some o∧H' b=none):=fun {H' s'} I' b hb o e=>by
    have z:=I'.pin (b,o) (by rw[epn];exact List.mem_append_right _ (List.mem_append_right _ (zCj hb e)))
    exact⟨z.1,z.2.1⟩
   cases ok with
   | false =>
    have q7':N ys H7:=q7
    obtain⟨m',hm,w7⟩:=hN _ _ q7'
    have pD:=I7.pin (s2.heap.objs.size,lstO us) (by rw[epn];simp)
    refine⟨m',hm,i+1,ys,us,H7,?_,rv,hz,T.keep _ _ _ st5 fun b hb o e=>(keepI I7 b hb o e).1,fun b hb=>?_,w7⟩
    ·exact (wk I7).zEk fun p hp=>by
      cases List.mem_singleton.mp hp
      exact pD
    ·obtain⟨o,e,_⟩:=T.obj _ _ st5 b hb
     exact (keepI I7 b hb o e).2
   | true =>
    have a8:=he _ s7 σ6 H7 _ I7 q7
    rw[eP,eW,eA,eE,exe] at a8
    refine thn a8 fun uy s8 ⟨y,H8,I8,ry,q8⟩=>?_
    obtain⟨m',hm,w8⟩:=hN _ _ q8
    have pD:=I8.pin (s2.heap.objs.size,lstO us) (by rw[epn];simp)
    refine append_at (hsz:=by show us.toArray.size≤sizeLine;rw[List.size_toArray,← rv.length];exact hz) pD.1 fun h9 hs9 hD9=>?_
    have fpD:∀ b∈fp,b≠s2.heap.objs.size:=fun b hb=>(below b (fpold b hb)).2
    have I9:Inv X' [] (zBg cap tgs.length σ) H8 { s8 with heap:=h9 }:=(wk I8).turned (t':=s8.toks) (it:=s2.heap.objs.size) (fun b o hb e=>(hs9.2 b hb).trans e) pD.2.1 pD.2.2.1 (.inr (by rw[eS];exact Nat.le_refl _))
     (fun x c e z=>by
      rw[eE] at e
      exact absurd (celo x c e) (by rw[z];exact Nat.lt_irrefl _)) (fun p hp=>by rw[epn] at hp;exact (nomatch hp))
    refine⟨m',hm,i+1,ys ++ [y],us ++ [uy],H8,?_,rv.append (.cons ry .nil),by rw[List.length_append,List.length_singleton];exact hlen,T.keep _ _ _ st5 fun b hb o e=>(hs9.2 b (fpD b hb)).trans (keepI I8 b hb o e).1,fun b hb=>?_,w8⟩
    ·refine I9.zEk fun p hp=>?_
     cases List.mem_singleton.mp hp
     refine⟨?_,pD.2.1,pD.2.2.1,pD.2.2.2.1,fun v z=>?_⟩
     ·show h9.get? _=some (lstO (us ++ [uy]))
      rw[hD9]
      show some ({ cls:=.type "list",data:=.seq (us.toArray.push uy) (us.length+1) }:Obj)=some { cls:=.type "list",data:=.seq (us ++ [uy]).toArray (us ++ [uy]).length }
      rw[List.push_toArray,List.length_append,List.length_singleton]
     ·have z':Data.seq _ _=Data.cell v:=z
      cases z'
    ·obtain⟨o,e,_⟩:=T.obj _ _ st5 b hb
     exact (keepI I8 b hb o e).2
 exact codeAny_compStart_list loop (T.self _ 0 _ _ _ (T.keep _ _ _ st2 fun b _ o e=>old b o e) loop)
theorem vP {X:Cx}{elt iter tg:Expr}{ifs:List Expr}{scope:Scope}{pos:Pos}{cl:List (Str×Addr)}{cap:List (Str×Nat)}{tgs:List Str}{wi:TI}{g:TG}{tc:TT}{te:TE}
  (hc:X.calm=true)(hclos:closureFor scope X.env=pure cl)(hkind:scope.kind=.function)
  (hnames:∀ x∈scope.names,x.2=.local→scope.names.lookup x.1=some .local)(hcell:∀ y∈scope.names,y.2≠.cell)
  (hfree:∀ y∈scope.names,y.2=.free→∃ c,cl.lookup y.1=some c)
  (hsub:∀ x c,cl.lookup x=some c→X.env.cells.lookup x=some c)
  (hcap:∀ p∈cap,X.N[p.2]?=some p.1∧(X.env.kindOf p.1=some .cell∨X.env.kindOf p.1=some .free)∧((relabel scope X.env).names.lookup p.1=some .cell∨(relabel scope X.env).names.lookup p.1=some .free)∧∃ c,cl.lookup p.1=some c)
  (hl:Leaves cap.length g)(hi:PI X tg iter wi)
  (hb:∀ C s H fp,PG (zBh X scope cl (cap.map (·.1) ++ tgs) C s H fp) tg g∧PTs (zBh X scope cl (cap.map (·.1) ++ tgs) C s H fp) ifs tc∧PE (zBh X scope cl (cap.map (·.1) ++ tgs) C s H fp) elt te)
  (hs:∀ x,foldedSetIterable iter X.env x=pure x:=by intro _;rfl) :
  PE X (.ListComp elt [⟨tg,iter,ifs,0⟩] scope pos) (tComp cap tgs.length wi g tc te):=by
 intro pins s σ H Q I h
 rw[eval_ListComp]
 refine comp_core hc hclos hkind hnames hcell hfree hsub hcap hl hi hb hs I h fun D C H' s' I' f q=>?_
 obtain⟨m,hn⟩:=f.ns
 exact⟨m,hn,fun h' sb=>⟨.ref D,H',f.go I' sb,rfl,q⟩⟩
theorem zBa {X:Cx}{elt iter tg:Expr}{ifs:List Expr}{scope:Scope}{pos py spos:Pos}{y:Str}{i:Nat}{cl:List (Str×Addr)}{cap:List (Str×Nat)}{tgs:List Str}{wi:TI}{g:TG}{tc:TT}{te:TE}
  (hN:X.N.Nodup)(hiy:X.N[i]?=some y)(hy:Loc X.env.scope y)
  (hc:X.calm=true)(hclos:closureFor scope X.env=pure cl)(hkind:scope.kind=.function)
  (hnames:∀ x∈scope.names,x.2=.local→scope.names.lookup x.1=some .local)(hcell:∀ y∈scope.names,y.2≠.cell)
  (hfree:∀ y∈scope.names,y.2=.free→∃ c,cl.lookup y.1=some c)
  (hsub:∀ x c,cl.lookup x=some c→X.env.cells.lookup x=some c)
  (hcap:∀ p∈cap,X.N[p.2]?=some p.1∧(X.env.kindOf p.1=some .cell∨X.env.kindOf p.1=some .free)∧((relabel scope X.env).names.lookup p.1=some .cell∨(relabel scope X.env).names.lookup p.1=some .free)∧∃ c,cl.lookup p.1=some c)
  (hl:Leaves cap.length g)(hi:PI X tg iter wi)
  (hb:∀ C s H fp,PG (zBh X scope cl (cap.map (·.1) ++ tgs) C s H fp) tg g∧PTs (zBh X scope cl (cap.map (·.1) ++ tgs) C s H fp) ifs tc∧PE (zBh X scope cl (cap.map (·.1) ++ tgs) C s H fp) elt te)
  (hs:∀ x,foldedSetIterable iter X.env x=pure x:=by intro _;rfl)
  (hsw:swapsWith (.ListComp elt [⟨tg,iter,ifs,0⟩] scope pos) (some (.Name y py)) spos.line X.env=pure true:=by rfl)
  (hf:X.fn y=true∨X.env.scope.names.lookup y=some .local:=by first | exact .inl rfl | exact .inr rfl | assumption) :
  PS X (.Assign [.Name y py] (.ListComp elt [⟨tg,iter,ifs,0⟩] scope pos) spos) (tAsg (tComp cap tgs.length wi g tc te) (gName i)):=by
 intro pins s σ H D I h
 rw[exec_Assign_Name_used _ _ _ _ hsw];refine wpAny_bind (wpAny_standAt (wpAny_bind ?_))
 show wpAny _ X.A (do let _ ← comprehension (.ListComp elt [⟨tg,iter,ifs,0⟩] scope pos) scope X.env _ (newList []) false (eval iter X.env) (some (assign (.Name y py) X.env))) _ _ s
 refine wpAny_bind (wpAny_mono (comp_core (use:=some (assign (.Name y py) X.env)) (Qp:=fun _ s'=>SP X pins D .next s') hc hclos hkind hnames hcell hfree hsub hcap hl hi hb hs I h fun D' C H' s' I' f q=>?_) (fun _ s' hq=>wpAny_pure (wpAny_pure hq)) fun _ _ e=>e)
 show wpAny _ X.A (assign (.Name y py) X.env (.ref D')) _ _ _
 refine wpAny_assign_Name (store_ok2 I' hN hiy hy (v:=.ref D') rfl (fun s'' I'' ⟨a,sa,ha⟩=>?_) hf)
 obtain⟨m,hn⟩:=f.ns
 have hCa:C≠a:=by
  rcases ha with z | z
  ·rw[z];exact f.loc
  ·exact Ne.symm (f.cel _ _ z)
 have f'':Fin X pins H' s'' C:=⟨f.none,f.loc,f.sz,f.cel,f.pin,⟨m,hn.sameBut sa hCa⟩⟩
 exact⟨m,hn.sameBut sa hCa,fun h' sb=>⟨_,H',f''.go I'' sb,q⟩⟩
theorem wG {K:PySem.W.Frag}{a:Addr}{xs:List V}{g:TG}{tc:TT}{te:TE}{σ':St}{H:Hp}{Q:VK}(Pv:Nat→List V→Hp→Prop)(h0:Pv 0 [] H)(hl:∀ i ys H,i≤xs.length→Pv i ys H→SqL K H a xs)(hz:∀ i ys H,i < xs.length→Pv i ys H→ys.length < sizeLine)
  (hs:∀ i x ys H,xs[i]?=some x→Pv i ys H→g x σ' H fun σ2 H2=>tc σ2 H2 fun b H3=>if b=true then te σ2 H3 fun y H4=>Pv (i+1) (ys ++ [y]) H4 else Pv (i+1) ys H3)(hd:∀ ys H,Pv xs.length ys H→∀ D,H D=none→Q (.ref D) (upd H D (.lst ys))) :
  zFm (Itl K a) g tc te σ' Q H:=by
 refine⟨fun i m ys H=>m=xs.length-i∧i≤xs.length∧Pv i ys H,⟨xs.length,by simp,Nat.zero_le _,h0⟩,?_⟩
 rintro i m ys H ⟨rfl,hi,p⟩
 have q:=hl i ys H hi p
 by_cases hlt:i < xs.length
 ·refine .inr ⟨⟨xs,xs[i],q,by simp [hlt]⟩,hz i ys H hlt p,Pv (i+1),fun ys' H' p'=>⟨xs.length-(i+1),by omega,rfl,hlt,p'⟩,fun x H' y=>?_⟩
  obtain⟨e,y⟩:=y
  subst e
  exact hs i x ys _ (y xs q) p
 ·have e:i=xs.length:=by omega
  subst e
  exact .inl ⟨⟨xs,q,Nat.le_refl _⟩,hd ys H p⟩
theorem comp_range {lo:Int}{n:Nat}{g:TG}{tc:TT}{te:TE}{σ':St}{H:Hp}{Q:VK}(Pv:Nat→List V→Hp→Prop)(h0:Pv 0 [] H)(hz:∀ i ys H,i < n→Pv i ys H→ys.length < sizeLine)
  (hs:∀ i ys H,i < n→Pv i ys H→g (.int (lo+i)) σ' H fun σ2 H2=>tc σ2 H2 fun b H3=>if b=true then te σ2 H3 fun y H4=>Pv (i+1) (ys ++ [y]) H4 else Pv (i+1) ys H3)(hd:∀ ys H,Pv n ys H→∀ D,H D=none→Q (.ref D) (upd H D (.lst ys))) :
  zFm (Itr lo n) g tc te σ' Q H:=by
 refine⟨fun i m ys H=>m=n-i∧i≤n∧Pv i ys H,⟨n,by simp,Nat.zero_le _,h0⟩,?_⟩
 rintro i m ys H ⟨rfl,hi,p⟩
 by_cases hlt:i < n
 ·refine .inr ⟨hlt,hz i ys H hlt p,Pv (i+1),fun ys' H' p'=>⟨n-(i+1),by omega,rfl,hlt,p'⟩,fun x H' y=>?_⟩
  obtain⟨e,y⟩:=y
  subst e y
  exact hs i ys _ hlt p
 ·have e:i=n:=by omega
  subst e
  exact .inl ⟨Nat.le_refl _,hd ys H p⟩
end L2
set_option Elab.async false
set_option linter.all false
set_option maxRecDepth 100000
set_option maxHeartbeats 5000000
namespace L2
open PySem PySem.Spec PyProof.Rows
section
variable {X:Cx}
theorem vO:OpR X (binaryOp .Mult) (rI IntMulOk fun i j=>.int (i*j)):=opI fun _ _ _ _ _ _ _ hc q=>mul_int q hc
def CDivB (i j:Int):Prop:=0 < j∧j.natAbs.log2 < 9000
theorem zY:OpR X (binaryOp .FloorDiv) (rI CDivB fun i j=>.int (i/j)):=opI fun i j _ _ _ _ _ hc q=>by
 have e:i/j=i.fdiv j:=(Int.fdiv_eq_ediv_of_nonneg i (Int.le_of_lt hc.1)).symm
 rw[e] at q
 exact floordiv_int (Int.ne_of_gt hc.1) q (.inl (PyProof.noPylong_of_log2 hc.2))
theorem jI:zEr X (.builtin "isinstance") (fun xs H Q=>∃ x T t b,xs=[x,.ty T]∧TyOf X.K H x t∧PySem.W.kitOne X.K t (.type T)=some b∧Q (.bl b) H):=by
 intro pins s σ H xs us Q I r h
 obtain⟨x,T,t,b,rfl,ty,e,q⟩:=h
 obtain⟨u,w',rfl,rx,rw'⟩:=vals2 r
 have ew:w'=Value.type T:=rw'
 subst ew
 exact isinst_ok I rx ty e fun tk=>⟨.bl b,H,I.tok tk,rfl,q⟩
end
theorem wQ:bootBuiltins "isinstance"=some (.builtin "isinstance"):=by decide +kernel
theorem bi_abs:bootBuiltins "abs"=some (.builtin "abs"):=by decide +kernel
theorem vY:bootBuiltins "len"=some (.builtin "len"):=by decide +kernel
theorem bi_int:bootBuiltins "int"=some (.type "int"):=by decide +kernel
theorem bi_bool:bootBuiltins "bool"=some (.type "bool"):=by decide +kernel
theorem zBs:bootBuiltins "list"=some (.type "list"):=by decide +kernel
theorem bi_tuple:bootBuiltins "tuple"=some (.type "tuple"):=by decide +kernel
def tMid (t u:TS):TS:=fun D σ H=>∃ M:St→Hp→Prop,t { D with nx:=M } σ H∧∀ σ' H',M σ' H'→u D σ' H'
theorem pss_mid {X:Cx}{st:Stmt}{rest:List Stmt}{t u:TS}(h1:PS X st t)(h2:PSs X rest u):PSs X (st::rest) (tMid t u):=by
 intro pins s σ H D I h
 obtain⟨M,ht,hu⟩:=h
 refine wpAny_execs_cons (thn (h1 pins s σ H { D with nx:=M } I ht) fun f s1 q=>?_)
 cases f with
 | next =>
  obtain⟨σ',H',I',q⟩:=q
  exact h2 pins s1 σ' H' D I' (hu σ' H' q)
 | ret v=>exact q
 | brk=>exact q
 | cont=>exact q
structure Df (P:Program)(w:World)(K:PySem.W.Frag)(mg:Str→Option Value)(base:Heap)(k:Nat)(x:Str)(ps:List Str)(sp:Sp):Prop where
 ex:∃ (f:Addr)(fd:FuncData),FnOk P w K mg base CX0 k f fd ps sp∧Binds K fd ps []∧PySem.W.keepIn K (.ref f)=true∧mg x=some (.ref f)
section
variable {X:Cx}{k:Nat}{x:Str}{ps:List Str}{sp:Sp}{e:Expr}{es:List Expr}{t:TA}{p pos:Pos}
theorem zQ (D:Df X.prog X.w X.K X.mg X.base k x ps sp)(hr:zDm k X.A)(hg:Gl X x)(ha:PA X (e::es) t)(hdb:(x == ("__debug__":Str))=false:=by decide)
  (he:starEach (e::es) X.env=(false,eval e X.env)::starEach es X.env:=by rfl)(hpl:(backTo pos (starEach es X.env)).any (·.1)=false:=by rfl) :
  PE X (.Call (.Name x p) (e::es) [] pos) (tCall sp [] E0 t):=by
 obtain⟨f,fd,F,hb,hk,hm⟩:=D.ex
 exact pe_call F hr hg hm hk hb .nil pass0 ha hdb he hpl
end
structure Dn (K:PySem.W.Frag)(mg:Str→Option Value)(x:Str)(st:Stmt)(ps:List Str):Prop where
 ex:∃ (f:Addr)(fd:FuncData),Fun K x x st f fd∧Binds K fd ps []∧mg x=some (.ref f)
theorem Dn.ok {P:Program}{w:World}{K:PySem.W.Frag}{mg:Str→Option Value}{base:Heap}{x:Str}{st:Stmt}{N ps:List Str}{k:Nat}{sp:Sp}(D:Dn K mg x st ps)(S:zV N ps (zB st))(len:∀ vs H Q E,sp vs H Q E→vs.length=ps.length)
  (hbody:∀ (f:Addr)(cdv:Value)(A:Around)(outer:List Env)(s:Shared)(H:Hp)(vs:List V)(Q:VK)(E:XK),zDm k (A.deeper (envOfC x (zB st) s.heap.objs.size f cdv))→sp vs H Q E →
   ∃ t,PSs (cxOf CX0 P w K mg base N x (zB st) f cdv A outer s H E).nox (zE st) t∧t { nx:=fun _ H'=>Q .non H',rt:=Q } (start N vs) H):Df P w K mg base (k+1) x ps sp:=by
 obtain⟨f,fd,F,b,m⟩:=D.ex
 exact⟨f,fd,F.ok S len (fun cdv A outer s H vs Q E hr h=>hbody f cdv A outer s H vs Q E hr h),b,F.kp,m⟩
theorem zDt {K:PySem.W.Frag}(T:String):PySem.W.kitOne K (.type T) (.type T)=some true:=if_pos (by simp)
theorem kit_ib {K:PySem.W.Frag}:PySem.W.kitOne K (.type "int") (.type "bool")=some false:=by
 first
 | rfl
 | decide +kernel
 | (show (if (Value.type "int" == Value.type "bool")=true then some true else _)=_;rw[if_neg (by decide)];rfl)
 | (show (if (Value.type "int" == Value.type "bool")=true then some true else _)=_;rw[if_neg (by decide)];kernel_rfl)
theorem vint {a b:Int}(h:decide (V.int a=V.int b)=true):a=b:=by
 have:=of_decide_eq_true h
 injection this
theorem zDj {a b:Int}(h:¬ decide (V.int a=V.int b)=true):¬ a=b:=fun e=>h (by rw[e];simp)
theorem vne {a b:Int}(h:(!decide (V.int a=V.int b))=true):¬ a=b:=fun e=>by rw[e] at h;simp at h
theorem nvne {a b:Int}(h:¬ (!decide (V.int a=V.int b))=true):a=b:=by
 by_cases e:a=b
 ·exact e
 ·exact absurd (by simp [e]) h
theorem dec {p:Prop} [Decidable p] (h:decide p=true):p:=of_decide_eq_true h
theorem ndec {p:Prop} [Decidable p] (h:¬ decide p=true):¬ p:=fun e=>h (decide_eq_true e)
theorem vE {H H':Hp}{r:Addr}{o:HO}(h:zR H H')(n:H r=none):zR H (upd H' r o):=fun b u q=>by rw[zL (zJ q n)];exact h b u q
theorem zK {H H':Hp}{r:Addr}{o:HO}(h:zR H H')(n:H' r=none):zR H (upd H' r o):=vE h (h.free n)
theorem zAg {n:Nat}(h:n≤20000):n < sizeLine:=Nat.lt_of_le_of_lt h (by decide)
theorem size2 {n:Nat}(h:n≤20000):n≤sizeLine:=Nat.le_of_lt (zAg h)
theorem v8 {α β:Type}{F:α→β→Prop}:∀ {l₁:List α}{l₂:List β}{i:Nat}{a:α},Paired F l₁ l₂→l₁[i]?=some a→∃ b,l₂[i]?=some b∧F a b
 | _,_,0,_,.cons h _,e=>by cases e;exact⟨_,rfl,h⟩
 | _,_,i+1,_,.cons _ t,e=>v8 (i:=i) t (by rw[List.getElem?_cons_succ] at e;exact e)
theorem int_at {ms:List Int}{i:Nat}{x:V}(h:(ms.map V.int)[i]?=some x):∃ v,x=.int v∧ms[i]?=some v:=by
 rw[List.getElem?_map] at h
 cases e:ms[i]? with
 | none=>rw[e] at h;cases h
 | some v=>rw[e] at h;cases h;exact⟨v,rfl,rfl⟩
theorem atI_in {ns:List Int}{k:Int}(h0:0≤k)(h:k < (ns.length:Int)):∃ v:Int,atI (ns.map V.int) k=some (.int v)∧ns[k.toNat]?=some v:=by
 have hk:k.toNat < ns.length:=(by omega)
 have ek:k=((k.toNat:Nat):Int):=by omega
 have q:atI (ns.map V.int) ((k.toNat:Nat):Int)=some (.int ns[k.toNat]):=atI_nat (by rw[List.getElem?_map,List.getElem?_eq_getElem hk] <;> rfl)
 rw[← ek] at q
 exact⟨ns[k.toNat],q,List.getElem?_eq_getElem hk⟩
theorem bits_le {a:Int}{m:Nat}(h:a.natAbs < 2^m):Builtin.Int.intBits a≤m:=by
 unfold Builtin.Int.intBits
 split
 ·exact Nat.zero_le _
 ·rename_i hz
  have h0:a.natAbs≠0:=by
   intro z
   apply hz
   simpa using z
  have:=(Nat.log2_lt h0).mpr h
  omega
theorem mul_ok {a b:Int}{m n:Nat}(ha:a.natAbs < 2^m)(hb:b.natAbs < 2^n)(h:m+n≤134217728):IntMulOk a b:=IntMulOk.of_le (bits_le ha) (bits_le hb) h
theorem vF {a b:Int}(h1:-1000000000≤a)(h2:a≤1000000000):IntMulOk a b:=IntMulOk.of_left (intBits_le_64 (by omega) (by omega))
theorem zU {i j:Int}(h0:0 < j)(h:j≤1000000000):CDivB i j:=by
 refine⟨h0,?_⟩
 have hn:j.natAbs < 2^30:=by omega
 have:=(Nat.log2_lt (show j.natAbs≠0 by omega)).mpr hn
 omega
end L2
set_option Elab.async false
set_option linter.all false
set_option maxRecDepth 100000
set_option maxHeartbeats 5000000
namespace L2
open PySem PySem.Spec PyProof.Rows
section
variable {X:Cx}{pins:List (Addr×Obj)}{σ:St}{H:Hp}{s:Shared}{h':Heap}
theorem Inv.turnedL {t':Nat}{its:List Addr}(I:Inv X pins σ H s)(k:∀ b o,b∉its→s.heap.get? b=some o→h'.get? b=some o)(hf:∀ b∈its,FpOk X pins H b):Inv X pins σ H { s with heap:=h',toks:=t' }:=by
 have nit:∀ b u,H b=some u→b∉its:=fun b u e z=>by rw[(hf b z).1] at e;cases e
 refine I.step (g':=s.gens) (d':=s.drawn) (ch:=its) (fun b hb=>?_) (fun b o _ _ hc e _=>k b o hc e) (fun b o _ _ hc e _=>⟨o.slots,k b o hc e⟩) (fun _ _ _ _ n=>n)
  (fun b o hc e=>⟨o,k b o hc e⟩) (fun _ _ e=>e) (fun _ _ _ e=>e) (fun b ps e=>⟨#[],by rw[e];simp⟩) (fun m hm=>?_) (fun b u e=>?_) I.bare
 ·obtain⟨_,f1,_,f3,f4,f5⟩:=hf b hb
  exact⟨f3,f1,f4,f5⟩
 ·obtain⟨o,es,ep,ho,r⟩:=hm
  exact⟨o,es,ep,k _ o (fun z=>(hf _ z).2.1 rfl) ho,r⟩
 ·refine (I.hok b u e).stay (fun c v hc q=>k c v ?_ q) (fun _ q=>q) fun _ _ q=>q
  rcases hc with z | z
  ·rw[z];exact nit b u e
  ·exact nit c _ z
theorem Inv.turnedT {t':Nat}{its:List Addr}{xs:List V}{us:List Value}(I:Inv X pins σ H s)(k:∀ b o,b∉its→s.heap.get? b=some o→h'.get? b=some o)(hf:∀ b∈its,FpOk X pins H b)(hlt:∀ b∈its,b < s.heap.objs.size)
  (ht:h'.get? s.heap.objs.size=some { cls:=.type "tuple",data:=.seq us.toArray })(hz:xs.length≤sizeLine)(r:Vals xs us) :
  Inv X pins σ (upd H s.heap.objs.size (.tup xs)) { s with heap:=h',toks:=t' }∧∀ b∈its,upd H s.heap.objs.size (.tup xs) b=none:=by
 have nf:∀ b∈its,upd H s.heap.objs.size (.tup xs) b=none:=fun b hb=>by rw[zL (Nat.ne_of_lt (hlt b hb))];exact (hf b hb).1
 refine⟨?_,nf⟩
 have I1:Inv X pins σ (upd H s.heap.objs.size (.tup xs)) { s with heap:=s.heap.push { cls:=.type "tuple",data:=.seq us.toArray },toks:=s.toks } :=
  I.laid (t':=s.toks) (fun b u e=>Heap.get?_push_of_some _ e) (Nat.le_refl _) ⟨hz,us,r,⟨_,Heap.get?_push_size _ rfl,rfl,_,rfl⟩⟩
 have I2:=I1.turnedL (h':=h') (t':=t') (its:=its) (fun b o hb e=>?_) (fun b hb=>⟨nf b hb,(hf b hb).2⟩)
 ·exact I2
 ·have e':(s.heap.push { cls:=.type "tuple",data:=.seq us.toArray }).get? b=some o:=e
  have hb':b < s.heap.objs.size+1:=by have:=Heap.lt_size e';rw[Heap.size_push] at this;exact this
  rcases Nat.lt_or_ge b s.heap.objs.size with z | z
  ·cases q:s.heap.get? b with
   | none =>
    exact absurd e' (by
     intro e''
     have:(s.heap.push { cls:=.type "tuple",data:=.seq us.toArray }).get? b=s.heap.get? b:=by
      first | exact Heap.get?_push_lt _ z | exact Heap.get?_push_of_lt _ z | (simp [Heap.get?,Heap.push,Array.getElem?_push,Nat.ne_of_lt z])
     rw[this,q] at e'';cases e'')
   | some o' =>
    have:=Heap.get?_push_of_some { cls:=.type "tuple",data:=.seq us.toArray } q
    rw[e'] at this;cases this
    exact k b o hb q
  ·have eb:b=s.heap.objs.size:=Nat.le_antisymm (Nat.le_of_lt_succ hb') z
   subst eb
   rw[Heap.get?_push_size _ rfl] at e'
   rw[ht];exact e'
end
def Ite (K:PySem.W.Frag)(a:Addr):It :=
 ⟨fun i H=>∃ xs x,SqL K H a xs∧xs[i]?=some x,fun i H v H'=>∃ p x,v=.ref p∧H p=none∧(∀ xs,SqL K H a xs→xs[i]?=some x)∧H'=upd H p (.tup [.int i,x]),fun i H=>∃ xs,SqL K H a xs∧xs.length≤i⟩
theorem turn_enum {P:Program}{w:World}{K:PySem.W.Frag}{elts:List Expr}{x1}{pos:Pos}(a e it:Addr)(hne:e≠it):Turn P w K (.Tuple elts x1 pos) (Ite K a) [e,it] e (fun i h=>∃ old,IsEnum h e it ((i:Nat):Int) old∧h.IsListIter it a i) where
 mem:=by simp
 obj:=fun i h st b hb=>by
  obtain⟨old,he,o,e1,c,d⟩:=st
  rcases List.mem_cons.mp hb with z | z
  ·subst z
   exact⟨_,he,fun v z=>by
    have z':Data.fields _=Data.cell v:=z
    cases z'⟩
  ·have z':b=it:=by simpa using z
   subst z'
   exact⟨o,e1,fun v z=>by rw[d] at z;cases z⟩
 keep:=fun i h h' st k=>by
  obtain⟨old,he,st⟩:=st
  exact⟨old,k e (by simp) _ he,st.at fun o e'=>k it (by simp) o e'⟩
 item:=by
  intro X hP hw hK hc i pins s σ H E I hf st hg
  subst hP hw hK
  obtain⟨old,he,st⟩:=st
  obtain⟨xs,x,hq,hx⟩:=hg
  obtain⟨its,rv,p,hz⟩:=I.list hq
  obtain⟨u,hu,ru⟩:=rv.get hx
  have lte:e < s.heap.objs.size:=Heap.lt_size he
  have lti:it < s.heap.objs.size:=by obtain⟨o,e1,_⟩:=st;exact Heap.lt_size e1
  refine wpAny_pyNext_enum_item he st p.isList (x:=u) (by simpa using hu) hne fun h1 eo st1 ht1 hz1 hk1=>?_
  refine⟨_,rfl,wpAny_letOwnedTupleGo_enum eo fun h2 he2 hs2=>?_⟩
  replace hs2:Heap.SameBut e h1 h2:=hs2
  have nm:∀ b,b∉[e,it]→b≠e∧b≠it:=fun b hb=>⟨fun z=>hb (by simp [z]),fun z=>hb (by simp [z])⟩
  have IT:=I.turnedT (t':=s.toks+1) (h':=h2) (its:=[e,it]) (xs:=[.int ((i:Nat):Int),x]) (us:=[.int i s.toks,u]) (fun b o hb q=>hs2.extBut b o (nm b hb).1 (hk1 b o (nm b hb).1 (nm b hb).2 q)) hf
   (fun b hb=>by
    rcases List.mem_cons.mp hb with z | z
    ·rw[z];exact lte
    ·have z':b=it:=by simpa using z
     rw[z'];exact lti)
   (hs2.extBut _ _ (Nat.ne_of_gt lte) ht1) (by show 2≤sizeLine;decide) (.cons ⟨_,rfl⟩ (.cons ru .nil))
  refine⟨.ref s.heap.objs.size,_,IT.1,rfl,⟨_,x,rfl,I.hok.fresh (Nat.le_refl _),fun ys hy=>by rw[I.zAb hy hq];exact hx,rfl⟩,⟨u,?_,st1.extBut hs2.extBut (Ne.symm hne)⟩,IT.2⟩
  have:((i+1:Nat):Int)=(i:Int)+1:=by push_cast;rfl
  rw[this];exact he2
 done:=by
  intro X hP hw hK hc i pins s σ H E I hf st hg
  subst hP hw hK
  obtain⟨old,he,st⟩:=st
  obtain⟨xs,hq,hx⟩:=hg
  obtain⟨its,rv,p,hz⟩:=I.list hq
  have hl:=rv.length
  obtain⟨f0,f1,f2,f3,f4,f5⟩:=hf it (by simp)
  exact wpAny_pyNext_enum_end (I.ok.hd hc) he st p.isList (by simp;omega) fun h' eb=>⟨rfl,I.turned (t':=s.toks) (fun b o hb e=>eb b o hb e) f0 f1 f3 f4 f5⟩
 self:=fun A i s Q E st h=>by
  obtain⟨old,he,st⟩:=st
  exact wpAny_pyIter_enum he h
section
variable {X:Cx}
def iEnum (K:PySem.W.Frag)(ta:TA):TI:=fun σ H R=>ta σ H fun vs H1=>∃ a,vs=[.ref a]∧(∃ xs,SqL K H1 a xs)∧R (Ite K a) H1
theorem pi_enum {elts:List Expr}{x1}{pos':Pos}{a:Expr}{ta:TA}{p pos:Pos}(hg:Gl X "enumerate")(hm:X.mg "enumerate"=none)(ha:PA X [a] ta)(hs:starEach [a] X.env=[(false,eval a X.env)]:=by rfl):PI X (.Tuple elts x1 pos') (.Call (.Name "enumerate" p) [a] [] pos) (iEnum X.K ta):=by
 intro pins s σ H R I h
 refine Call_ (jT I hg hm boot_enumerate (PyProof.Rows.callWith_type1 (thn (ha pos pins s σ H _ I h) fun us s1 ⟨vs,H1,I1,r1,q1⟩=>?_) hs rfl))
 obtain⟨a,e,⟨xs,hq⟩,q⟩:=q1
 subst e
 cases r1 with
 | cons r rr =>
  cases rr
  cases r
  obtain⟨its,rv,p,hz⟩:=I1.list hq
  refine call_enumerate_list p.isList fun h' he hit hz hk=>?_
  have I2:Inv X pins σ H1 { s1 with heap:=h' }:=I1.kept (t':=s1.toks) hk
  refine wpAny_pyIter_enum he ?_
  refine⟨_,[s1.heap.objs.size+1,s1.heap.objs.size],_,_,H1,rfl,I2,turn_enum a _ _ (Nat.succ_ne_self _),⟨.none,he,hit⟩,fun b hb=>?_,q⟩
  rcases List.mem_cons.mp hb with z | z
  ·subst z;exact I1.fpOk (Nat.le_succ _) (I1.hok.fresh (Nat.le_succ _))
  ·have z':b=s1.heap.objs.size:=by simpa using z
   subst z';exact I1.fpOk (Nat.le_refl _) (I1.hok.fresh (Nat.le_refl _))
end
def Itz (K:PySem.W.Frag)(a b:Addr):It :=
  ⟨fun i H=>∃ xs ys x y,SqL K H a xs∧SqL K H b ys∧xs[i]?=some x∧ys[i]?=some y,fun i H v H'=>∃ p x y,v=.ref p∧H p=none∧(∀ xs,SqL K H a xs→xs[i]?=some x)∧(∀ ys,SqL K H b ys→ys[i]?=some y)∧H'=upd H p (.tup [x,y]),
   fun i H=>∃ xs ys,SqL K H a xs∧SqL K H b ys∧(xs.length≤i∨ys.length≤i)⟩
theorem turn_zip {P:Program}{w:World}{K:PySem.W.Frag}{elts:List Expr}{x1}{pos:Pos}(a b z TI TO i1 i2:Addr)(D:ZipApart z TI TO i1 i2 a b):Turn P w K (.Tuple elts x1 pos) (Itz K a b) [z,TI,TO,i1,i2] z
  (fun i h=>IsZip h z TI TO .none∧IsPair h TI (.ref i1) (.ref i2)∧(∃ u v,IsPair h TO u v)∧h.IsListIter i1 a i∧h.IsListIter i2 b i) where
 mem:=by simp
 obj:=fun i h st c hc=>by
  obtain⟨hz,h1,⟨u,v,h2⟩,⟨o1,e1,c1,d1⟩,⟨o2,e2,c2,d2⟩⟩:=st
  simp only [List.mem_cons,List.not_mem_nil,or_false] at hc
  rcases hc with rfl | rfl | rfl | rfl | rfl
  ·exact⟨_,hz,fun v q=>by
    have q':Data.fields _=Data.cell v:=q
    cases q'⟩
  ·exact⟨_,h1,fun v q=>by
    have q':Data.seq _ _=Data.cell v:=q
    cases q'⟩
  ·exact⟨_,h2,fun v q=>by
    have q':Data.seq _ _=Data.cell v:=q
    cases q'⟩
  ·exact⟨o1,e1,fun v q=>by rw[d1] at q;cases q⟩
  ·exact⟨o2,e2,fun v q=>by rw[d2] at q;cases q⟩
 keep:=fun i h h' st k=>by
  obtain⟨hz,h1,⟨u,v,h2⟩,s1,s2⟩:=st
  exact⟨k z (by simp) _ hz,k TI (by simp) _ h1,⟨u,v,k TO (by simp) _ h2⟩,s1.at fun o e=>k i1 (by simp) o e,s2.at fun o e=>k i2 (by simp) o e⟩
 item:=by
  intro X hP hw hK hc i pins s σ H E I hf st hg
  subst hP hw hK
  obtain⟨hz,h1,⟨u0,v0,h2⟩,s1,s2⟩:=st
  obtain⟨xs,ys,x,y,hq,hq',hx,hy⟩:=hg
  obtain⟨its,rv,p,hzl⟩:=I.list hq
  obtain⟨its',rv',p',hzl'⟩:=I.list hq'
  obtain⟨u,hu,ru⟩:=rv.get hx
  obtain⟨u',hu',ru'⟩:=rv'.get hy
  have ltz:z < s.heap.objs.size:=Heap.lt_size hz
  have lt1:TI < s.heap.objs.size:=Heap.lt_size h1
  have lt2:TO < s.heap.objs.size:=Heap.lt_size h2
  have lti:i1 < s.heap.objs.size:=by obtain⟨o,e1,_⟩:=s1;exact Heap.lt_size e1
  have ltj:i2 < s.heap.objs.size:=by obtain⟨o,e1,_⟩:=s2;exact Heap.lt_size e1
  refine wpAny_pyNext_zip_item D hz h1 h2 s1 s2 p.isList p'.isList (x:=u) (y:=u') (by simpa using hu) (by simpa using hu') fun g1 a1 a2 a3 a4 a5 a6 hk=>?_
  refine⟨_,rfl,wpAny_letOwnedTupleGo_zip a1 fun g2 he2 hs2=>?_⟩
  replace hs2:Heap.SameBut z g1 g2:=hs2
  have nm:∀ b,b∉[z,TI,TO,i1,i2]→b≠z∧b≠TO∧b≠i1∧b≠i2:=fun b hb=>⟨fun q=>hb (by simp [q]),fun q=>hb (by simp [q]),fun q=>hb (by simp [q]),fun q=>hb (by simp [q])⟩
  have IT:=I.turnedT (t':=s.toks) (h':=g2) (its:=[z,TI,TO,i1,i2]) (xs:=[x,y]) (us:=[u,u']) (fun b o hb q=>hs2.extBut b o (nm b hb).1 (hk b o (nm b hb).1 (nm b hb).2.1 (nm b hb).2.2.1 (nm b hb).2.2.2 q)) hf
   (fun b hb=>by
    simp only [List.mem_cons,List.not_mem_nil,or_false] at hb
    rcases hb with rfl | rfl | rfl | rfl | rfl <;> assumption)
   (hs2.extBut _ _ (Nat.ne_of_gt ltz) a5) (by show 2≤sizeLine;decide) (.cons ru (.cons ru' .nil))
  exact⟨.ref s.heap.objs.size,_,IT.1,rfl,⟨_,x,y,rfl,I.hok.fresh (Nat.le_refl _),fun ys hy'=>by rw[I.zAb hy' hq];exact hx,fun ys hy'=>by rw[I.zAb hy' hq'];exact hy,rfl⟩,
   ⟨he2,hs2.extBut _ _ D.TIz (hk _ _ D.TIz D.TITO D.TIi1 D.TIi2 h1),⟨_,_,hs2.extBut _ _ D.TOz a2⟩,a3.extBut hs2.extBut D.i1z,a4.extBut hs2.extBut D.i2z⟩,IT.2⟩
 done:=by
  intro X hP hw hK hc i pins s σ H E I hf st hg
  subst hP hw hK
  obtain⟨hz,h1,⟨u0,v0,h2⟩,s1,s2⟩:=st
  obtain⟨xs,ys,hq,hq',hx⟩:=hg
  obtain⟨its,rv,p,hzl⟩:=I.list hq
  obtain⟨its',rv',p',hzl'⟩:=I.list hq'
  have hl:=rv.length
  have hl':=rv'.length
  refine wpAny_pyNext_zip_end (I.ok.hd hc) D hz h1 h2 s1 s2 p.isList p'.isList (by rcases hx with q | q;exact .inl (by simp;omega);exact .inr (by simp;omega)) fun h' hk=>⟨rfl,I.turnedL (t':=s.toks) (its:=[z,TI,TO,i1,i2]) (fun b o hb e=>hk b o ?_ ?_ ?_ ?_ e) hf⟩
  ·exact fun q=>hb (by simp [q])
  ·exact fun q=>hb (by simp [q])
  ·exact fun q=>hb (by simp [q])
  ·exact fun q=>hb (by simp [q])
 self:=fun A i s Q E st h=>wpAny_pyIter_zip st.1 h
section
variable {X:Cx}
def iZip (K:PySem.W.Frag)(ta:TA):TI:=fun σ H R=>ta σ H fun vs H1=>∃ a b,vs=[.ref a,.ref b]∧(∃ xs,SqL K H1 a xs)∧(∃ ys,SqL K H1 b ys)∧R (Itz K a b) H1
theorem pi_zip {elts:List Expr}{x1}{pos':Pos}{a b:Expr}{ta:TA}{p pos:Pos}(hg:Gl X "zip")(hm:X.mg "zip"=none)(ha:PA X [a,b] ta)(hs:starEach [a,b] X.env=[(false,eval a X.env),(false,eval b X.env)]:=by rfl)(hs2:starEach [b] X.env=[(false,eval b X.env)]:=by rfl) :
  PI X (.Tuple elts x1 pos') (.Call (.Name "zip" p) [a,b] [] pos) (iZip X.K ta):=by
 intro pins s σ H R I h
 refine Call_ (jT I hg hm boot_zip (PyProof.Rows.callWith_type1 (thn (ha pos pins s σ H _ I h) fun us s1 ⟨vs,H1,I1,r1,q1⟩=>?_) (by rw[hs,hs2]) (by rw[hs2];rfl)))
 obtain⟨a,b,e,⟨xs,hq⟩,⟨ys,hq'⟩,q⟩:=q1
 subst e
 cases r1 with
 | cons r rr =>
  cases rr with
  | cons r' rr =>
   cases rr
   cases r
   cases r'
   obtain⟨its,rv,p,hz⟩:=I1.list hq
   obtain⟨its',rv',p',hz'⟩:=I1.list hq'
   have la:a < s1.heap.objs.size:=by obtain⟨o,e1,_⟩:=p.isList;exact Heap.lt_size e1
   have lb:b < s1.heap.objs.size:=by obtain⟨o,e1,_⟩:=p'.isList;exact Heap.lt_size e1
   refine call_zip_2 p.isList p'.isList fun h' hz hTI hTO hi1 hi2 hsz hk=>?_
   have I2:Inv X pins σ H1 { s1 with heap:=h' }:=I1.kept (t':=s1.toks) hk
   refine wpAny_pyIter_zip hz ?_
   refine⟨_,_,_,_,H1,rfl,I2,turn_zip a b _ _ _ _ _ (zipApart_new la lb),⟨hz,hTI,⟨_,_,hTO⟩,hi1,hi2⟩,fun c hc=>?_,q⟩
   simp only [List.mem_cons,List.not_mem_nil,or_false] at hc
   rcases hc with rfl | rfl | rfl | rfl | rfl <;> exact I1.fpOk (by omega) (I1.hok.fresh (by omega))
end
theorem comp_enum {K:PySem.W.Frag}{a:Addr}{xs:List V}{g:TG}{tc:TT}{te:TE}{σ':St}{H:Hp}{Q:VK}(Pv:Nat→List V→Hp→Prop)(h0:Pv 0 [] H)(hl:∀ i ys H,i≤xs.length→Pv i ys H→SqL K H a xs)(hz:∀ i ys H,i < xs.length→Pv i ys H→ys.length < sizeLine)
  (hs:∀ i x ys H p,xs[i]?=some x→Pv i ys H→H p=none→g (.ref p) σ' (upd H p (.tup [.int i,x])) fun σ2 H2=>tc σ2 H2 fun b H3=>if b=true then te σ2 H3 fun y H4=>Pv (i+1) (ys ++ [y]) H4 else Pv (i+1) ys H3)(hd:∀ ys H,Pv xs.length ys H→∀ D,H D=none→Q (.ref D) (upd H D (.lst ys))) :
  zFm (Ite K a) g tc te σ' Q H:=by
 refine⟨fun i m ys H=>m=xs.length-i∧i≤xs.length∧Pv i ys H,⟨xs.length,by simp,Nat.zero_le _,h0⟩,?_⟩
 rintro i m ys H ⟨rfl,hi,p⟩
 have q:=hl i ys H hi p
 by_cases hlt:i < xs.length
 ·refine .inr ⟨⟨xs,xs[i],q,by simp [hlt]⟩,hz i ys H hlt p,Pv (i+1),fun ys' H' p'=>⟨xs.length-(i+1),by omega,rfl,hlt,p'⟩,fun x H' y=>?_⟩
  obtain⟨r,y,rfl,hr,hy,rfl⟩:=y
  exact hs i y ys _ r (hy xs q) p hr
 ·have e:i=xs.length:=by omega
  subst e
  exact .inl ⟨⟨xs,q,Nat.le_refl _⟩,hd ys H p⟩
theorem comp_zip {K:PySem.W.Frag}{a b:Addr}{xs ys:List V}{g:TG}{tc:TT}{te:TE}{σ':St}{H:Hp}{Q:VK}(hlen:xs.length=ys.length)(Pv:Nat→List V→Hp→Prop)(h0:Pv 0 [] H)(hl:∀ i rs H,i≤xs.length→Pv i rs H→SqL K H a xs∧SqL K H b ys)(hz:∀ i rs H,i < xs.length→Pv i rs H→rs.length < sizeLine)
  (hs:∀ i x y rs H p,xs[i]?=some x→ys[i]?=some y→Pv i rs H→H p=none→g (.ref p) σ' (upd H p (.tup [x,y])) fun σ2 H2=>tc σ2 H2 fun b H3=>if b=true then te σ2 H3 fun y H4=>Pv (i+1) (rs ++ [y]) H4 else Pv (i+1) rs H3)(hd:∀ rs H,Pv xs.length rs H→∀ D,H D=none→Q (.ref D) (upd H D (.lst rs))) :
  zFm (Itz K a b) g tc te σ' Q H:=by
 refine⟨fun i m rs H=>m=xs.length-i∧i≤xs.length∧Pv i rs H,⟨xs.length,by simp,Nat.zero_le _,h0⟩,?_⟩
 rintro i m rs H ⟨rfl,hi,p⟩
 have q:=hl i rs H hi p
 by_cases hlt:i < xs.length
 ·refine .inr ⟨⟨xs,ys,xs[i],ys[i],q.1,q.2,by simp [hlt],by simp⟩,hz i rs H hlt p,Pv (i+1),fun ys' H' p'=>⟨xs.length-(i+1),by omega,rfl,hlt,p'⟩,fun x H' y=>?_⟩
  obtain⟨r,x,y,rfl,hr,hx,hy,rfl⟩:=y
  exact hs i x y rs _ r (hx xs q.1) (hy ys q.2) p hr
 ·have e:i=xs.length:=by omega
  subst e
  exact .inl ⟨⟨xs,ys,q.1,q.2,.inl (Nat.le_refl _)⟩,hd rs H p⟩
theorem zAa {K:PySem.W.Frag}{n i j:Nat}(h:n≤i)(h':n≤j):Leaves n (gTup K 2 (gCons (gName i) (gCons (gName j) gNil))):=by
 rintro x σ H Q ⟨a,xs,rfl,hq,hl,v,r,rfl,v',r',rfl,rfl,q⟩
 exact⟨a,_,rfl,hq,hl,v,_,rfl,v',_,rfl,rfl,⟨by simp,fun k hk=>by rw[List.getElem?_set_ne (by omega),List.getElem?_set_ne (by omega)]⟩,q⟩
theorem bi_min:bootBuiltins "min"=some (.builtin "min"):=by decide +kernel
theorem bi_max:bootBuiltins "max"=some (.builtin "max"):=by decide +kernel
end L2
set_option Elab.async false
set_option linter.all false
set_option maxRecDepth 100000
set_option maxHeartbeats 5000000
namespace L2
open PySem PySem.Spec PyProof.Rows PySem.SeqAt
mutual
inductive RdD (K:PySem.W.Frag)(H:Hp):V→PyData→Prop
 | non:RdD K H .non .none
 | bl (b:Bool):RdD K H (.bl b) (.bool b)
 | int (i:Int):RdD K H (.int i) (.int i)
 | str (x:Str):RdD K H (.str x) (.str x)
 | lst {a:Addr}{xs:List V}{ds:List PyData}:SqL K H a xs→RdDs K H xs ds→RdD K H (.ref a) (.list ds)
 | tup {a:Addr}{xs:List V}{ds:List PyData}:SqT K H a xs→RdDs K H xs ds→RdD K H (.ref a) (.tuple ds)
inductive RdDs (K:PySem.W.Frag)(H:Hp):List V→List PyData→Prop
 | nil:RdDs K H [] []
 | cons {x:V}{d:PyData}{xs:List V}{ds:List PyData}:RdD K H x d→RdDs K H xs ds→RdDs K H (x::xs) (d::ds)
end
section
variable {X:Cx}{pins:List (Addr×Obj)}{σ:St}{H:Hp}{s:Shared}
mutual
theorem zCf (I:Inv X pins σ H s):∀ {x:V}{d:PyData}{u:Value},RdD X.K H x d→RelV x u→∃ as,Reads s.heap u d as
 | _,_,_,.non,r=>by cases r;exact⟨_,.none⟩
 | _,_,_,.bl b,r=>by cases r;exact⟨_,.bool b⟩
 | _,_,_,.int i,⟨t,e⟩=>by subst e;exact⟨_,.int i t⟩
 | _,_,_,.str y,⟨t,e⟩=>by subst e;exact⟨_,.str y t⟩
 | _,_,_,.lst h hs,r=>by
  cases r
  obtain⟨its,rv,pl,_⟩:=I.list h
  obtain⟨as,ra⟩:=zBt I hs rv
  obtain⟨o,ho,hc,n,hd⟩:=pl.isList
  exact⟨_,.list ho hc hd ra⟩
 | _,_,_,.tup h hs,r=>by
  cases r
  obtain⟨its,rv,pl,_⟩:=I.tuple h
  obtain⟨as,ra⟩:=zBt I hs rv
  obtain⟨o,ho,hc,n,hd⟩:=pl
  exact⟨_,.tuple ho hc hd ra⟩
theorem zBt (I:Inv X pins σ H s):∀ {xs:List V}{ds:List PyData}{us:List Value},RdDs X.K H xs ds→Vals xs us→∃ as,ReadsAll s.heap us ds as
 | _,_,_,.nil,.nil=>⟨_,.nil⟩
 | _,_,_,.cons h t,.cons r rs=>by
  obtain⟨as,ra⟩:=zCf I h r
  obtain⟨bs,rb⟩:=zBt I t rs
  exact⟨_,.cons ra rb⟩
end
end
def rEqD (K:PySem.W.Frag):R2:=fun x y H Q=>∃ d e,RdD K H x d∧RdD K H y e∧shaped d=true∧shaped e=true∧noMix d e=true∧Q (.bl (same d e)) H
def rNeD (K:PySem.W.Frag):R2:=fun x y H Q=>∃ d e,RdD K H x d∧RdD K H y e∧shaped d=true∧shaped e=true∧noMix d e=true∧Q (.bl (!same d e)) H
theorem hu64 {A:Around}{k:Nat}(hr:zDm k A):A.units+64 < cLine:=by have:=hr.un;omega
section
variable {X:Cx}
theorem zEi (hu:X.A.units+64 < cLine):OpR X (compareOp .Eq) (rEqD X.K):=by
 intro pins s σ H x y v u Q I rx ry h
 obtain⟨d,e,h1,h2,s1,s2,nm,q⟩:=h
 obtain⟨as,ra⟩:=zCf I h1 rx
 obtain⟨bs,rb⟩:=zCf I h2 ry
 exact eq_dataH_same ra rb s1 s2 hu nm ⟨.bl _,H,I,rfl,q⟩
theorem op_neD (hu:X.A.units+64 < cLine):OpR X (compareOp .NotEq) (rNeD X.K):=by
 intro pins s σ H x y v u Q I rx ry h
 obtain⟨d,e,h1,h2,s1,s2,nm,q⟩:=h
 obtain⟨as,ra⟩:=zCf I h1 rx
 obtain⟨bs,rb⟩:=zCf I h2 ry
 exact ne_dataH_same ra rb s1 s2 hu nm ⟨.bl _,H,I,rfl,q⟩
end
theorem rd_ints {K:PySem.W.Frag}{H:Hp}:∀ ns:List Int,RdDs K H (ns.map V.int) (ns.map PyData.int)
 | []=>.nil
 | n::r=>.cons (.int n) (rd_ints r)
theorem rd_lst {K:PySem.W.Frag}{H:Hp}{a:Addr}{ns:List Int}(h:SqL K H a (ns.map V.int)):RdD K H (.ref a) (.list (ns.map PyData.int)):=.lst h (rd_ints ns)
theorem mix_ints (ns ms:List Int):noMix (.list (ns.map PyData.int)) (.list (ms.map PyData.int))=true:=by simp only [noMix];exact PySem.W.noMix_ints ns ms
theorem zFk (ns ms:List Int):same (.list (ns.map PyData.int)) (.list (ms.map PyData.int))=decide (ns=ms):=by simp only [same];exact PySem.W.same_ints ns ms
theorem neL_of {K:PySem.W.Frag}{H:Hp}{a b:Addr}{ns ms:List Int}{Q:VK}(h1:SqL K H a (ns.map V.int))(h2:SqL K H b (ms.map V.int))(q:Q (.bl (!decide (ns=ms))) H):rNeD K (.ref a) (.ref b) H Q :=
 ⟨_,_,rd_lst h1,rd_lst h2,PySem.W.shaped_ints ns,PySem.W.shaped_ints ms,mix_ints ns ms,by rw[zFk];exact q⟩
theorem zFq {K:PySem.W.Frag}{H:Hp}{a b:Addr}{ns ms:List Int}{Q:VK}(h1:SqL K H a (ns.map V.int))(h2:SqL K H b (ms.map V.int))(q:Q (.bl (decide (ns=ms))) H):rEqD K (.ref a) (.ref b) H Q :=
 ⟨_,_,rd_lst h1,rd_lst h2,PySem.W.shaped_ints ns,PySem.W.shaped_ints ms,mix_ints ns ms,by rw[zFk];exact q⟩
theorem vals_toks:∀ {ns:List Int}{its:List Value},Vals (ns.map V.int) its→∃ ts:List (Int×Tok),its=ts.map (fun p=>Value.int p.1 p.2)∧ts.map (·.1)=ns
 | [],_,.nil=>⟨[],rfl,rfl⟩
 | n::r,_,.cons ⟨t,e⟩ rs=>by
  obtain⟨ts,e1,e2⟩:=vals_toks rs
  subst e
  exact⟨(n,t)::ts,by rw[e1];rfl,by rw[← e2];rfl⟩
section
variable {X:Cx}
end
end L2
set_option linter.all false
namespace Ld
def S:Nat→(Int→Int)→Int
 | 0,_=>0
 | n+1,F=>S n F+F n
theorem jO {F G:Int→Int}:∀ {n:Nat},(∀ j:Nat,j < n→F j=G j)→S n F=S n G
 | 0,_=>rfl
 | n+1,h=>by simp only [S];rw[jO fun j hj=>h j (by omega),h n (by omega)]
theorem S_zero:∀ n:Nat,S n (fun _=>0)=0
 | 0=>rfl
 | n+1=>by simp only [S];rw[S_zero n];rfl
theorem S_add (F G:Int→Int):∀ n:Nat,S n (fun j=>F j+G j)=S n F+S n G
 | 0=>rfl
 | n+1=>by simp only [S];rw[S_add F G n];omega
theorem S_swap (F:Int→Int→Int)(m:Nat):∀ n:Nat,S n (fun j=>S m (fun k=>F j k))=S m (fun k=>S n (fun j=>F j k))
 | 0=>by simp only [S];rw[S_zero]
 | n+1=>by simp only [S];rw[S_swap F m n,← S_add]
theorem S_one {c:Int}{G:Int→Int}:∀ {n:Nat},0≤c→S n (fun j=>if j=c then G j else 0)=if c < n then G c else 0
 | 0,h=>by simp only [S];rw[if_neg (by omega)]
 | n+1,h=>by
  simp only [S]
  rw[S_one h]
  by_cases e:(n:Int)=c
  ·subst e
   rw[if_neg (by omega),if_pos rfl,if_pos (by omega)];omega
  ·rw[if_neg e]
   by_cases q:c < (n:Int)
   ·rw[if_pos q,if_pos (by omega)];omega
   ·rw[if_neg q,if_neg (by omega)];omega
def Per (n:Nat)(F:Int→Int):Prop:=∀ x y:Int,x%n=y%n→F x=F y
theorem Per.md {n:Nat}{F:Int→Int}(h:Per n F)(x:Int):F (x%n)=F x:=h _ _ (Int.emod_emod_of_dvd x (Int.dvd_refl _))
theorem S_bij {n:Nat}(hn:0 < n){F:Int→Int}(hF:Per n F)(φ ψ:Int→Int)(hφ:∀ x y:Int,x%n=y%n→φ x%n=φ y%n)(hψ:∀ x y:Int,x%n=y%n→ψ x%n=ψ y%n)
  (h1:∀ x,ψ (φ x)%n=x%n)(h2:∀ x,φ (ψ x)%n=x%n):S n (fun j=>F (φ j))=S n F:=by
 have np:(0:Int) < n:=by omega
 have e1:S n (fun j=>F (φ j))=S n (fun j=>S n (fun k=>if k=φ j%n then F k else 0)):=jO fun j hj=>by
  rw[S_one (Int.emod_nonneg _ (by omega)),if_pos (Int.emod_lt_of_pos _ np),hF.md]
 rw[e1,S_swap]
 refine jO fun k hk=>?_
 have e2:S n (fun j=>if (k:Int)=φ j%n then F k else 0)=S n (fun j=>if j=ψ k%n then F k else 0):=jO fun j hj=>by
  have ej:(j:Int)%n=j:=Int.emod_eq_of_lt (by omega) (by omega)
  have ek:(k:Int)%n=k:=Int.emod_eq_of_lt (by omega) (by omega)
  have iff:((k:Int)=φ j%n)↔((j:Int)=ψ k%n):=by
   constructor
   ·intro e
    have:=hψ k (φ j) (by rw[ek];exact e)
    rw[this,h1,ej]
   ·intro e
    have:=hφ j (ψ k) (by rw[ej];exact e)
    rw[this,h2,ek]
  by_cases q:(k:Int)=φ j%n
  ·rw[if_pos q,if_pos (iff.mp q)]
  ·rw[if_neg q,if_neg fun z=>q (iff.mpr z)]
 rw[e2,S_one (G:=fun _=>F k) (Int.emod_nonneg _ (by omega)),if_pos (Int.emod_lt_of_pos _ np)]
theorem zAh {n x y:Int}(c:Int)(h:x%n=y%n):(x+c)%n=(y+c)%n:=by rw[Int.add_emod,h,← Int.add_emod]
theorem S_shift {n:Nat}(hn:0 < n){F:Int→Int}(hF:Per n F)(c:Int):S n (fun j=>F (j+c))=S n F :=
 S_bij hn hF (fun j=>j+c) (fun j=>j + -c) (fun x y h=>zAh c h) (fun x y h=>zAh (-c) h) (fun x=>by congr 1;omega) (fun x=>by congr 1;omega)
def at' (a:List Int)(x:Int):Int:=a.getD (x%a.length).toNat 0
theorem at_per (a:List Int):Per a.length (at' a):=fun x y h=>by unfold at';rw[h]
theorem vM {a:List Int}{n:Nat}(h:a.length=n):Per n (at' a):=h▸at_per a
theorem zEd {n:Nat}(hn:0 < n)(x:Int):(x%n).toNat < n:=by
 have h1:=Int.emod_nonneg x (show (n:Int)≠0 by omega)
 have h2:=Int.emod_lt_of_pos x (show (0:Int) < n by omega)
 omega
theorem hole_eq {n:Nat}(hn:0 < n)(x:Int):(((x%n).toNat:Nat):Int)=x%n:=Int.toNat_of_nonneg (Int.emod_nonneg x (by omega))
theorem zAv {a:List Int}{x:Int}(h:0 < a.length):a[(x%a.length).toNat]?=some (at' a x):=by
 have:=zEd h x
 unfold at'
 rw[List.getD_eq_getElem?_getD,List.getElem?_eq_getElem this];rfl
theorem at_nat {a:List Int}{k:Nat}{v:Int}(h:a[k]?=some v):at' a k=v:=by
 have hk:k < a.length:=(List.getElem?_eq_some_iff.mp h).1
 unfold at'
 rw[Int.emod_eq_of_lt (by omega) (by omega),Int.toNat_natCast,List.getD_eq_getElem?_getD,h];rfl
theorem get_at {a:List Int}{k:Nat}(h:k < a.length):a[k]?=some (at' a k):=by
 rw[List.getElem?_eq_getElem h];exact congrArg some (at_nat (List.getElem?_eq_getElem h)).symm
theorem ext {a b:List Int}(hl:a.length=b.length)(h:∀ k:Nat,k < a.length→at' a k=at' b k):a=b:=by
 refine List.ext_getElem? fun k=>?_
 by_cases hk:k < a.length
 ·rw[get_at hk,get_at (hl▸hk),h k hk]
 ·rw[List.getElem?_eq_none (by omega),List.getElem?_eq_none (by omega)]
theorem zFu {a:List Int}{n:Nat}(hl:a.length=n)(hn:0 < n)(x v y:Int):at' (a.set (x%n).toNat v) y=if y%n=x%n then v else at' a y:=by
 have hx:=zEd hn x
 have hy:=zEd hn y
 unfold at'
 rw[List.length_set,hl,List.getD_eq_getElem?_getD,List.getElem?_set]
 by_cases e:y%n=x%n
 ·rw[if_pos e,e,if_pos rfl,if_pos (by omega)];rfl
 ·rw[if_neg e,if_neg fun z=>e ?_,← List.getD_eq_getElem?_getD]
  have:=congrArg (Nat.cast (R:=Int)) z
  rw[hole_eq hn,hole_eq hn] at this
  exact this.symm
theorem zEm (n:Nat)(x:Int):at' (List.replicate n 0) x=0:=by
 unfold at'
 rw[List.getD_eq_getElem?_getD,List.getElem?_replicate]
 split <;> rfl
def hung (n:Nat)(h w:Int):List Int:=(List.replicate n 0).set (h%n).toNat w
theorem hung_len (n:Nat)(h w:Int):(hung n h w).length=n:=by simp [hung]
theorem at_hung {n:Nat}(hn:0 < n)(h w x:Int):at' (hung n h w) x=if x%n=h%n then w else 0:=by
 unfold hung
 rw[zFu (by simp) hn,zEm]
def plus (a b:List Int):List Int:=List.zipWith (· + ·) a b
theorem zAf {a b:List Int}(h:a.length=b.length):(plus a b).length=a.length:=by simp [plus,h]
theorem at_plus {a b:List Int}(h:a.length=b.length)(hn:0 < a.length)(x:Int):at' (plus a b) x=at' a x+at' b x:=by
 have e:=zAv (a:=plus a b) (x:=x) (by rw[zAf h];exact hn)
 rw[zAf h] at e
 unfold plus at e
 rw[List.getElem?_zipWith,zAv hn,show (x%a.length).toNat=(x%b.length).toNat by rw[h],zAv (by omega)] at e
 exact (Option.some.inj e).symm
def scaled (a:List Int)(m:Int):List Int:=a.map (· * m)
theorem wO (a:List Int)(m:Int):(scaled a m).length=a.length:=by simp [scaled]
theorem at_scaled {a:List Int}(hn:0 < a.length)(m x:Int):at' (scaled a m) x=at' a x*m:=by
 have e:=zAv (a:=scaled a m) (x:=x) (by rw[wO];exact hn)
 rw[wO] at e
 unfold scaled at e
 rw[List.getElem?_map,zAv hn] at e
 exact (Option.some.inj e).symm
def conv (a b:List Int):List Int:=(List.range b.length).map fun x:Nat=>S b.length fun j=>at' a j*at' b ((x:Int)-j)
def Bd (B:Nat)(a:List Int):Prop:=∀ x∈a,x.natAbs≤B
theorem bd_mono {B C:Nat}{a:List Int}(h:Bd B a)(l:B≤C):Bd C a:=fun x hx=>Nat.le_trans (h x hx) l
theorem bd_set {B C:Nat}{a:List Int}{k:Nat}{v:Int}(h:Bd B a)(l:B≤C)(hv:v.natAbs≤C):Bd C (a.set k v):=fun x hx=>by
 rcases List.mem_or_eq_of_mem_set hx with z | z
 ·exact Nat.le_trans (h x z) l
 ·rw[z];exact hv
theorem bd_rep (B n:Nat):Bd B (List.replicate n 0):=fun x hx=>by rw[(List.mem_replicate.mp hx).2];exact Nat.zero_le _
theorem at_bd {B:Nat}{a:List Int}(h:Bd B a)(x:Int):(at' a x).natAbs≤B:=by
 unfold at'
 rw[List.getD_eq_getElem?_getD]
 cases e:a[(x%a.length).toNat]? with
 | none=>exact Nat.zero_le _
 | some v=>exact h v (List.mem_of_getElem? e)
theorem bd_hung {B n:Nat}{h w:Int}(hw:w.natAbs≤B):Bd B (hung n h w):=bd_set (bd_rep 0 n) (Nat.zero_le _) hw
theorem bd_of {B:Nat}{a:List Int}(h:∀ k:Nat,k < a.length→(at' a k).natAbs≤B):Bd B a:=fun x hx=>by
 obtain⟨k,hk,rfl⟩:=List.mem_iff_getElem.mp hx
 have:=h k hk
 rwa [at_nat (List.getElem?_eq_getElem hk)] at this
theorem bd_plus {B C:Nat}{a b:List Int}(e:a.length=b.length)(ha:Bd B a)(hb:Bd C b):Bd (B+C) (plus a b):=bd_of fun k hk=>by
 rw[zAf e] at hk
 rw[at_plus e (by omega)]
 have:=at_bd ha k
 have:=at_bd hb k
 omega
theorem bd_scaled {B C:Nat}{a:List Int}{m:Int}(ha:Bd B a)(hm:m.natAbs≤C):Bd (B*C) (scaled a m):=fun x hx=>by
 obtain⟨y,hy,rfl⟩:=List.mem_map.mp hx
 rw[Int.natAbs_mul]
 exact Nat.mul_le_mul (ha y hy) hm
end Ld
set_option linter.all false
namespace Ld
def nz (a:List Int)(i:Nat):List (Int×Int):=((List.range i).map fun j:Nat=>((j:Int),at' a j)).filter fun p=>decide (¬ p.2=0)
theorem nz_succ (a:List Int)(i:Nat):nz a (i+1)=nz a i ++ (if at' a i=0 then [] else [((i:Int),at' a i)]):=by
 unfold nz
 rw[List.range_succ,List.map_append,List.filter_append]
 congr 1
 by_cases h:at' a i=0 <;> simp [h]
theorem nz_len (a:List Int)(i:Nat):(nz a i).length≤i:=by
 unfold nz
 refine Nat.le_trans (List.length_filter_le _ _) ?_
 simp
theorem bd_plus' {B:Nat}{a b:List Int}(e:a.length=b.length)(ha:Bd (2^B) a)(hb:Bd (2^B) b):Bd (2^(B+1)) (plus a b):=by
 refine bd_mono (bd_plus e ha hb) ?_
 rw[Nat.pow_succ];omega
theorem zFi {B C:Nat}{a:List Int}{m:Int}(ha:Bd (2^B) a)(hm:m.natAbs≤2^C):Bd (2^(B+C)) (scaled a m):=by
 rw[Nat.pow_add];exact bd_scaled ha hm
end Ld
set_option Elab.async false
set_option linter.all false
set_option maxRecDepth 100000
set_option maxHeartbeats 5000000
namespace L2
open PySem PySem.Spec PyProof.Rows PySem.SeqAt
theorem ixN_in {n:Nat}{k:Int}(h0:0≤k)(h1:k < n):ixN n k=some k.toNat:=by unfold ixN;rw[if_pos h0,if_pos h1]
theorem zAy {xs:List V}{n:Nat}(hl:xs.length=n)(hn:0 < n)(x:Int):ixN xs.length (x%n)=some (x%n).toNat:=by
 rw[hl];exact ixN_in (Int.emod_nonneg _ (by omega)) (Int.emod_lt_of_pos _ (by omega))
theorem zEw {a:List Int}{n:Nat}(hl:a.length=n):(a.map V.int).length=n:=by rw[List.length_map,hl]
theorem zAz {a:List Int}{n:Nat}(hl:a.length=n)(hn:0 < n)(x:Int):atI (a.map V.int) (x%n)=some (.int (Ld.at' a x)):=by
 subst hl
 unfold atI
 rw[zAy (zEw rfl) hn]
 show (a.map V.int)[(x%(a.length:Int)).toNat]?=_
 rw[List.getElem?_map,Ld.zAv hn];rfl
theorem atI_k {a:List Int}{k:Int}(h0:0≤k)(hk:k < a.length):atI (a.map V.int) k=some (.int (Ld.at' a k)):=by
 have:=zAz (a:=a) rfl (by omega) k
 rwa [Int.emod_eq_of_lt h0 hk] at this
theorem rep0 (m:Nat):(List.replicate ((m:Nat):Int).toNat [V.int 0]).flatten=(List.replicate m (0:Int)).map V.int:=by
 rw[Int.toNat_natCast]
 induction m with
 | zero=>rfl
 | succ k ih=>rw[List.replicate_succ,List.flatten_cons,ih,List.replicate_succ,List.map_cons];rfl
theorem set_int {a:List Int}{j:Nat}{v:Int}:(a.map V.int).set j (.int v)=(a.set j v).map V.int:=by rw[List.map_set]
theorem j9 {l:List Int}{i:Nat}{v:Int}(h:l[i]?=some v):(l.take (i+1)).map V.int=(l.take i).map V.int ++ [.int v]:=by
 rw[List.take_succ,h,List.map_append];rfl
theorem zAw {l:List Int}{n:Nat}(h:l.length=n):(l.take n).map V.int=l.map V.int:=by rw[← h,List.take_length]
theorem zDe {as:List Addr}{i:Nat}{x:V}(h:(as.map V.ref)[i]?=some x):∃ a,x=.ref a∧as[i]?=some a:=by
 rw[List.getElem?_map] at h
 cases e:as[i]? with
 | none=>rw[e] at h;cases h
 | some v=>rw[e] at h;cases h;exact⟨v,rfl,rfl⟩
theorem mulB {a b:Int}{B C:Nat}(ha:a.natAbs≤2^B)(hb:b.natAbs≤2^C)(h:B+C≤1000000):IntMulOk a b :=
 mul_ok (m:=B+1) (n:=C+1) (Nat.lt_of_le_of_lt ha (Nat.pow_lt_pow_right (by decide) (Nat.lt_succ_self _))) (Nat.lt_of_le_of_lt hb (Nat.pow_lt_pow_right (by decide) (Nat.lt_succ_self _))) (by omega)
theorem jF {n:Nat}{g:TG}{tb:TS}{D:Ends}{σ:St}{H:Hp}(Pv:Nat→St→Hp→Prop)(h0:Pv 0 σ H)
  (hs:∀ i σ H,i < n→Pv i σ H→g (.int i) σ H fun σ2 H2=>tb { D with nx:=Pv (i+1),ct:=Pv (i+1),bk:=D.nx } σ2 H2)(hd:∀ σ H,Pv n σ H→D.nx σ H) :
  ∃ W:Nat→Nat→St→Hp→Prop,(∃ m,W 0 m σ H)∧∀ i m σ H,W i m σ H →
   ((Itr 0 n).stop i H∧D.nx σ H)∨((Itr 0 n).go i H∧∃ N:St→Hp→Prop,(∀ σ' H',N σ' H'→∃ m',m' < m∧W (i+1) m' σ' H')∧∀ x H',(Itr 0 n).yld i H x H'→g x σ H' fun σ2 H2=>tb { D with nx:=N,ct:=N,bk:=D.nx } σ2 H2) :=
 zEe Pv h0 (fun i σ H hi p=>by rw[Int.zero_add];exact hs i σ H hi p) hd
theorem zDy {n:Nat}{g:TG}{tc:TT}{te:TE}{σ':St}{H:Hp}{Q:VK}(Pv:Nat→List V→Hp→Prop)(h0:Pv 0 [] H)(hz:∀ i ys H,i < n→Pv i ys H→ys.length < sizeLine)
  (hs:∀ i ys H,i < n→Pv i ys H→g (.int i) σ' H fun σ2 H2=>tc σ2 H2 fun b H3=>if b=true then te σ2 H3 fun y H4=>Pv (i+1) (ys ++ [y]) H4 else Pv (i+1) ys H3)(hd:∀ ys H,Pv n ys H→∀ D,H D=none→Q (.ref D) (upd H D (.lst ys))) :
  zFm (Itr 0 n) g tc te σ' Q H:=comp_range Pv h0 hz (fun i ys H hi p=>by rw[Int.zero_add];exact hs i ys H hi p) hd
theorem ixN_modE {xs:List V}{n:Nat}(hl:xs.length=n)(hn:0 < n){x:Int}(hx:x%n=x):ixN xs.length x=some (x%n).toNat:=(congrArg (ixN xs.length) hx.symm).trans (zAy hl hn x)
theorem zDs {X:Cx}{K:PySem.W.Frag}(h:X.K=K):IxR X (rIxL K):=by subst h;exact vD
end L2
set_option Elab.async false
set_option linter.all false
set_option maxRecDepth 100000
set_option maxHeartbeats 5000000
namespace L2
open PySem PySem.Spec PyProof.Rows
def cnt3 (lo hi st:Int):Nat:=if lo < hi then ((hi-lo-1)/st+1).toNat else 0
theorem size3 {lo hi st:Int}(h:0 < st):Builtin.Range.rangeSize lo hi st=(cnt3 lo hi st:Nat):=by
 unfold Builtin.Range.rangeSize cnt3
 rw[if_pos h]
 split
 ·have:=Int.ediv_nonneg (show 0≤hi-lo-1 by omega) (show 0≤st by omega)
  omega
 ·rfl
theorem cnt3_le {lo hi st:Int}(h:0 < st)(h0:0≤lo)(h1:hi≤1000000):cnt3 lo hi st≤1000000:=by
 unfold cnt3
 split
 ·have:=Int.ediv_le_self (b:=st) (show 0≤hi-lo-1 by omega)
  omega
 ·omega
section
variable {X:Cx}{tg:Expr}
end
theorem inV_ints (p:Int):∀ l:List Int,inV (.int p) (l.map V.int)=decide (p∈l)
 | []=>by simp [inV]
 | a::r=>by
  have ih:=inV_ints p r
  unfold inV at ih ⊢
  rw[List.map_cons,List.any_cons,ih]
  show ((a == p) || decide (p∈r))=_
  by_cases h:a=p
  ·simp [h]
  ·have h':¬ p=a:=fun e=>h e.symm
   simp [h,h']
theorem zEf:∀ l:List Int,(l.map V.int).all flatV=true
 | []=>rfl
 | a::r=>by rw[List.map_cons,List.all_cons,zEf r];rfl
def TrAt (H:Hp)(r:Addr)(ts:List (Int×Int×Int)):Prop:=∃ as:List Addr,H r=some (.lst (as.map V.ref))∧Paired (fun a (x:Int×Int×Int)=>H a=some (.tup [.int x.1,.int x.2.1,.int x.2.2])) as ts
theorem TrAt.same {H H':Hp}{r:Addr}{ts:List (Int×Int×Int)}(h:TrAt H r ts)(s:zR H H'):TrAt H' r ts:=let ⟨as,h1,h2⟩:=h;⟨as,s _ _ h1,Paired.zEp h2 fun d x e=>s _ _ e⟩
end L2
set_option Elab.async false
set_option linter.all false
set_option maxRecDepth 100000
set_option maxHeartbeats 5000000
namespace L2
open PySem PySem.Spec PyProof.Rows PySem.SeqAt
section
variable {X:Cx}
abbrev bts (i:Int):Int:=((Builtin.Int.intBits i:Nat):Int)
def rBits:V→List V→Hp→VK→Prop:=fun x vs H Q=>∃ i:Int,x=.int i∧vs=[]∧Q (.int (bts i)) H
theorem mt_bits:MtM X "int.bit_length" rBits:=by
 intro pins s σ H x vs v us Q I rx rv h
 obtain⟨i,rfl,rfl,q⟩:=h
 cases rv
 obtain⟨t,rfl⟩:=rx
 exact call_int_bit_length ⟨.int (bts i),H,I.tok _,⟨_,rfl⟩,q⟩
theorem bts_zero {i:Int}(h:¬ bts i > 0):i=0:=by
 unfold bts Builtin.Int.intBits at h
 by_cases e:i=0
 ·exact e
 ·rw[if_neg (by simpa using e)] at h;omega
theorem bts_pos {i:Int}(h:bts i > 0):¬ i=0:=by
 rintro rfl
 exact absurd h (by decide)
theorem bts_le {i:Int}(h:i.natAbs < 2^64):bts i≤64:=by
 have:=PyProof.Rows.intBits_le h
 unfold bts;omega
theorem zAj:∀ {l:List Value}{n:Nat}{F:Nat→V},l.length=n→(∀ (j:Nat) v,l[j]?=some v→RelV (F j) v)→Vals ((List.range n).map F) l
 | [],n,F,hl,_=>by cases hl;exact .nil
 | v::l,n,F,hl,h=>by
  cases hl
  have e:(List.range (v::l).length).map F=F 0::(List.range l.length).map (fun j=>F (j+1)):=by
   rw[List.length_cons,List.range_succ_eq_map,List.map_cons,List.map_map];rfl
  rw[e]
  exact .cons (h 0 v rfl) (zAj rfl fun j u hj=>h (j+1) u hj)
def rg3 (lo st:Int)(n:Nat):List Int:=(List.range n).map fun (i:Nat)=>lo+(i:Int)*st
def tLR3 (ta:TA):TE:=fun σ H Q=>ta σ H fun vs H1=>∃ i j k:Int,vs=[.int i,.int j,.int k]∧(0≤i∧i≤1000000∧0≤j∧j≤1000000∧0 < k∧k≤1000000)∧∀ l,H1 l=none→Q (.ref l) (upd H1 l (.lst ((rg3 i k (cnt3 i j k)).map V.int)))
theorem pe_lrng3 {a b c:Expr}{ta:TA}{p p2 pos pos2:Pos}(hcm:X.calm=true)(hgl:Gl X "list")(hml:X.mg "list"=none)(hg:Gl X "range")(hm:X.mg "range"=none)(ha:PA X [a,b,c] ta)
  (he:starEach [a,b,c] X.env=(false,eval a X.env)::starEach [b,c] X.env:=by rfl)(hpl:(backTo pos2 (starEach [b,c] X.env)).any (·.1)=false:=by rfl)
  (he2:starEach [.Call (.Name "range" p2) [a,b,c] [] pos2] X.env=(false,eval (.Call (.Name "range" p2) [a,b,c] [] pos2) X.env)::starEach [] X.env:=by rfl) :
  PE X (.Call (.Name "list" p) [.Call (.Name "range" p2) [a,b,c] [] pos2] [] pos) (tLR3 ta):=by
 intro pins s σ H Q I h
 refine wpAny_Call_Name_kw (jT I hgl hml zBs ?_)
 refine PyProof.Rows.callWith_type1 ?_ he2 rfl
 rw[he2]
 show wpAny _ _ (spliced ((false,eval (.Call (.Name "range" p2) [a,b,c] [] pos2) X.env)::backTo pos (starEach [] X.env))) _ _ s
 refine Calls.spliced_cons ?_
 refine Call_ (jT I hg hm boot_range (PyProof.Rows.callWith_type1 (thn (ha pos2 pins s σ H _ I h) fun us s1 ⟨vs,H1,I1,r1,q1⟩=>?_) he hpl))
 obtain⟨i,j,k,e,⟨q1,q2,q3,q4,q5,q6⟩,q⟩:=q1
 subst e
 cases r1 with
 | cons r rr =>
  cases rr with
  | cons r' rr =>
   cases rr with
   | cons r'' rr =>
    cases rr
    obtain⟨t,rfl⟩:=r
    obtain⟨t',rfl⟩:=r'
    obtain⟨t'',rfl⟩:=r''
    refine call_range_3 (by omega) ?_ (.inl (PyProof.noPylong_small (by omega)))
    have c3:=cnt3_le (lo:=i) q5 q1 q4
    have sm:Builtin.Range.small i j k=true:=by
     unfold Builtin.Range.small
     rw[size3 q5]
     simp only [Builtin.Range.rangeFitsLong,Bool.and_eq_true,Bool.or_eq_true,decide_eq_true_eq,beq_iff_eq,q5,if_true,gt_iff_lt]
     omega
    have I2:Inv X pins σ H1 { s1 with heap:=s1.heap.push { cls:=.type "range",data:=.fields #[.int i t,.int j t',.int k t''] },toks:=s1.toks }:=I1.kept fun b o e=>Heap.get?_push_of_some _ e
    refine Calls.spliced_nil ?_
    refine call_list_range (n:=cnt3 i j k) (I2.ok.hd hcm) (IsRange.new ..) sm (size3 q5) (by omega) fun h' tk acc' c' kp e items=>?_
    have vals:Vals ((rg3 i k (cnt3 i j k)).map V.int) acc'.toList:=by
     unfold rg3
     rw[List.map_map]
     refine zAj (by rw[Array.length_toList];exact items.1) fun m v hm=>?_
     have:=items.2 m v (by rw[← Array.getElem?_toList];exact hm)
     obtain⟨t,rfl⟩:=this
     exact⟨t,rfl⟩
    have hz:((rg3 i k (cnt3 i j k)).map V.int).length≤sizeLine:=by
     unfold rg3;rw[List.length_map,List.length_map,List.length_range];exact Nat.le_trans c3 (by decide)
    refine⟨.ref _,_,I2.laid (t':=tk) kp (Nat.le_refl _) (show wH X.prog X.w _ h' _ (.lst ((rg3 i k (cnt3 i j k)).map V.int)) from ⟨hz,acc'.toList,c',vals,by simpa using e⟩),rfl,q _ (I2.hok.fresh (Nat.le_refl _))⟩
end
end L2
set_option Elab.async false
set_option linter.all false
set_option maxRecDepth 100000
set_option maxHeartbeats 5000000
namespace L2
open PySem PySem.Spec PyProof.Rows
section
variable {κ:Type} [DecidableEq κ]
def zDw (kvs:List (κ×V))(k:κ):Option V:=(kvs.find? fun kv=>decide (kv.1=k)).map (·.2)
def putK (kvs:List (κ×V))(k:κ)(v:V):List (κ×V) :=
 if (kvs.any fun kv=>decide (kv.1=k))=true then kvs.map (fun kv=>if kv.1=k then (kv.1,v) else kv) else kvs ++ [(k,v)]
theorem wU {p:κ×V}{r:List (κ×V)}{k:κ}(e:p.1=k):zDw (p::r) k=some p.2:=by simp [zDw,List.find?_cons,e]
theorem wV {p:κ×V}{r:List (κ×V)}{k:κ}(e:¬ p.1=k):zDw (p::r) k=zDw r k:=by simp [zDw,List.find?_cons,e]
theorem zDr (k:κ):∀ kvs:List (κ×V),(kvs.any fun kv=>decide (kv.1=k))=(zDw kvs k).isSome
 | []=>rfl
 | p::r=>by
  rw[List.any_cons]
  by_cases e:p.1=k
  ·simp only [wU e,decide_eq_true e,Bool.true_or,Option.isSome_some]
  ·rw[wV e,decide_eq_false e,Bool.false_or];exact zDr k r
theorem valV_map (k j:κ)(y:V):∀ kvs:List (κ×V),zDw (kvs.map fun kv=>if kv.1=k then (kv.1,y) else kv) j=(zDw kvs j).map fun x=>if j=k then y else x
 | []=>rfl
 | p::r=>by
  have ih:=valV_map k j y r
  rw[List.map_cons]
  by_cases h:p.1=k
  ·rw[if_pos h]
   by_cases e:p.1=j
   ·rw[wU (p:=(p.1,y)) e,wU e,Option.map_some,if_pos (e.symm.trans h)]
   ·rw[wV (p:=(p.1,y)) e,wV e,ih]
  ·rw[if_neg h]
   by_cases e:p.1=j
   ·rw[wU (p:=p) e,wU e,Option.map_some,if_neg (fun z=>h (e.trans z))]
   ·rw[wV (p:=p) e,wV e,ih]
theorem valV_snoc (k j:κ)(y:V):∀ kvs:List (κ×V),zDw kvs k=none→zDw (kvs ++ [(k,y)]) j=if j=k then some y else zDw kvs j
 | [],_=>by
  by_cases e:k=j
  ·rw[if_pos e.symm];exact wU (p:=(k,y)) e
  ·rw[if_neg (fun z=>e z.symm)];exact wV (p:=(k,y)) e
 | p::r,hn=>by
  rw[List.cons_append]
  have hk:¬ p.1=k:=fun z=>by rw[wU z] at hn;cases hn
  rw[wV hk] at hn
  have ih:=valV_snoc k j y r hn
  by_cases e:p.1=j
  ·rw[wU e,wU e,if_neg (fun z=>hk (e.trans z))]
  ·rw[wV e,wV e,ih]
theorem valV_put (kvs:List (κ×V))(k j:κ)(y:V):zDw (putK kvs k y) j=if j=k then some y else zDw kvs j:=by
 unfold putK
 by_cases a:(kvs.any fun kv=>decide (kv.1=k))=true
 ·rw[if_pos a,valV_map]
  rw[zDr] at a
  by_cases e:j=k
  ·obtain⟨x,hx⟩:=Option.isSome_iff_exists.mp a
   rw[if_pos e,e,hx,Option.map_some,if_pos rfl]
  ·rw[if_neg e]
   cases zDw kvs j with
   | none=>rfl
   | some x=>rw[Option.map_some,if_neg e]
 ·rw[if_neg a]
  refine valV_snoc k j y kvs ?_
  rw[zDr] at a
  cases q:zDw kvs k with
  | none=>rfl
  | some x=>rw[q] at a;exact (a rfl).elim
theorem zBq (kvs:List (κ×V))(k:κ)(v:V):(putK kvs k v).length≤kvs.length+1:=by
 unfold putK
 split
 ·rw[List.length_map];omega
 ·rw[List.length_append,List.length_cons,List.length_nil];omega
theorem RelO.zEj {o:Option V}{u:Option Value}(r:RelO o u):o.isSome=u.isSome:=by
 cases o with
 | none=>cases u with
  | none=>rfl
  | some _=>exact (show False from r).elim
 | some _=>cases u with
  | none=>exact (show False from r).elim
  | some _=>rfl
theorem RelO.getD {o:Option V}{u:Option Value}{d:V}{d':Value}(r:RelO o u)(rd:RelV d d'):RelV (o.getD d) (u.getD d'):=by
 cases o with
 | none=>cases u with
  | none=>exact rd
  | some _=>exact (show False from r).elim
 | some _=>cases u with
  | none=>exact (show False from r).elim
  | some _=>exact r
theorem KV.val {kvs:List (κ×V)}{vs:List (κ×Value)}(r:KV kvs vs)(k:κ):RelO (zDw kvs k) (valueAt vs k):=by
 unfold KV at r
 induction r with
 | nil=>exact True.intro
 | @cons p q ps qs h t ih =>
  obtain⟨h1,h2⟩:=h
  by_cases e:p.1=k
  ·have e':q.1=k:=h1.symm.trans e
   have b:valueAt (q::qs) k=some q.2:=by simp [valueAt,List.find?_cons,e']
   rw[wU e,b];exact h2
  ·have e':¬ q.1=k:=fun z=>e (h1.trans z)
   have b:valueAt (q::qs) k=valueAt qs k:=by simp [valueAt,List.find?_cons,e']
   rw[wV e,b];exact ih
theorem KV.any {kvs:List (κ×V)}{vs:List (κ×Value)}(r:KV kvs vs)(k:κ):(kvs.any fun kv=>decide (kv.1=k))=vs.any fun kv=>decide (kv.1=k):=by
 unfold KV at r
 induction r with
 | nil=>rfl
 | cons h t ih=>rw[List.any_cons,List.any_cons,ih,h.1]
theorem KV.repl {kvs:List (κ×V)}{vs:List (κ×Value)}(r:KV kvs vs)(k:κ){y:V}{u:Value}(ry:RelV y u) :
  KV (kvs.map fun kv=>if kv.1=k then (kv.1,y) else kv) (vs.map fun kv=>if kv.1=k then (kv.1,u) else kv):=by
 unfold KV at r ⊢
 induction r with
 | nil=>exact .nil
 | @cons p q ps qs h t ih =>
  rw[List.map_cons,List.map_cons]
  refine .cons ?_ ih
  obtain⟨h1,h2⟩:=h
  by_cases e:p.1=k
  ·rw[if_pos e,if_pos (h1.symm.trans e)];exact⟨h1,ry⟩
  ·rw[if_neg e,if_neg (fun z=>e (h1.trans z))];exact⟨h1,h2⟩
theorem KV.put {kvs:List (κ×V)}{vs:List (κ×Value)}(r:KV kvs vs)(k:κ){y:V}{u:Value}(ry:RelV y u):KV (putK kvs k y) (stored vs k u):=by
 unfold putK stored
 rw[r.any k]
 by_cases e:(vs.any fun kv=>decide (kv.1=k))=true
 ·rw[if_pos e,if_pos e];exact r.repl k ry
 ·rw[if_neg e,if_neg e];exact Paired.snoc r ⟨rfl,ry⟩
theorem KV.length {kvs:List (κ×V)}{vs:List (κ×Value)}(r:KV kvs vs):kvs.length=vs.length:=Paired.length r
end
theorem kV_is {P:Program}{w:World}{k:Key}{u:Value}(r:RelV (kV k) u):(wZ P w).is k u=true:=by
 cases k with
 | inl i=>obtain⟨t,e⟩:=(show ∃ t,u=Value.int i t from r);subst e;exact mixKind_int P w i t
 | inr x=>obtain⟨t,e⟩:=(show ∃ t,u=Value.str x t from r);subst e;exact mixKind_str P w x t
theorem items_are {P:Program}{w:World}:∀ {ks:List Key}{us:List Value},Vals (ks.map kV) us→ItemsAre (wZ P w) ks us
 | [],_,r=>by rw[List.map_nil] at r;cases r;exact .nil
 | k::ks,_,r=>by
  rw[List.map_cons] at r
  cases r with
  | cons h t=>exact .cons (kV_is h) (items_are t)
abbrev KT (H:Hp):List (List Key×V)→List (List Key×Addr×Value)→Prop:=Paired fun p q=>p.1=q.1∧H q.2.1=some (.tup (p.1.map kV))∧RelV p.2 q.2.2
theorem KT.val {H:Hp}{kvs:List (List Key×V)}{xs:List (List Key×Addr×Value)}(r:KT H kvs xs)(k:List Key):RelO (zDw kvs k) ((atKey xs k).map (·.2)):=by
 induction r with
 | nil=>exact True.intro
 | @cons p q ps qs h t ih =>
  obtain⟨h1,_,h2⟩:=h
  by_cases e:p.1=k
  ·have e':q.1=k:=h1.symm.trans e
   have b:atKey (q::qs) k=some q.2:=by simp [atKey,List.find?_cons,e']
   rw[wU e,b];exact h2
  ·have e':¬ q.1=k:=fun z=>e (h1.trans z)
   have b:atKey (q::qs) k=atKey qs k:=by simp [atKey,List.find?_cons,e']
   rw[wV e,b];exact ih
theorem KT.repl {H:Hp}{kvs:List (List Key×V)}{xs:List (List Key×Addr×Value)}(r:KT H kvs xs)(k:List Key){y:V}{u:Value}(ry:RelV y u) :
  KT H (kvs.map fun kv=>if kv.1=k then (kv.1,y) else kv) (xs.map (putAt k u)):=by
 induction r with
 | nil=>exact .nil
 | @cons p q ps qs h t ih =>
  rw[List.map_cons,List.map_cons]
  refine .cons ?_ ih
  obtain⟨h1,h2,h3⟩:=h
  unfold putAt
  by_cases e:p.1=k
  ·rw[if_pos e,if_pos (h1.symm.trans e)];exact⟨h1,h2,ry⟩
  ·rw[if_neg e,if_neg (fun z=>e (h1.trans z))];exact⟨h1,h2,h3⟩
theorem KT.put {H:Hp}{kvs:List (List Key×V)}{xs:List (List Key×Addr×Value)}(r:KT H kvs xs)(k:List Key){b:Addr}{y:V}{u:Value}(hb:H b=some (.tup (k.map kV)))(ry:RelV y u) :
  KT H (putK kvs k y) (storedH xs k b u):=by
 have e:(kvs.any fun kv=>decide (kv.1=k))=(atKey xs k).isSome:=by
  rw[zDr,(r.val k).zEj,Option.isSome_map]
 unfold putK storedH
 rw[e]
 by_cases q:(atKey xs k).isSome=true
 ·rw[if_pos q,if_pos q];exact r.repl k ry
 ·rw[if_neg q,if_neg q];exact Paired.snoc r ⟨rfl,hb,ry⟩
theorem KT.keeps {H H':Hp}{kvs:List (List Key×V)}{xs:List (List Key×Addr×Value)}(r:KT H kvs xs)(ht:∀ b ys,H b=some (.tup ys)→H' b=some (.tup ys)):KT H' kvs xs :=
 Paired.zEp r fun _ _ z=>⟨z.1,ht _ _ z.2.1,z.2.2⟩
section
variable {P:Program}{w:World}{H:Hp}{h:Heap}{a:Addr}
theorem rd_of {u:HO}(ok:HOk P w H h)(e:Rd H a u):wH P w H h a u:=e.ok ok
theorem dk_rd {kvs:List (Key×V)}(ok:HOk P w H h)(e:Rd H a (.dK kvs)):kvs.length≤sizeLine∧(a == sysModules)=false∧∃ vs,KV kvs vs∧h.DictOf (wZ P w) a vs :=
 show wH P w H h a (.dK kvs) from rd_of ok e
theorem dk_of {kvs:List (Key×V)}(ok:HOk P w H h)(e:H a=some (.dK kvs)):kvs.length≤sizeLine∧(a == sysModules)=false∧∃ vs,KV kvs vs∧h.DictOf (wZ P w) a vs:=dk_rd ok (.inl e)
theorem key_of {ks:List Key}(ok:HOk P w H h)(e:H a=some (.tup (ks.map kV))):(tupleKind (wZ P w)).is h ks a:=by
 obtain⟨_,its,r,o,h1,h2,n,h3⟩:=(show wH P w H h a (.tup (ks.map kV)) from ok a _ e)
 exact⟨o,its.toArray,n,h1,h2,h3,by simpa using items_are r⟩
theorem dt_rd {kvs:List (List Key×V)}(ok:HOk P w H h)(e:Rd H a (.dT kvs)):kvs.length≤sizeLine∧(a == sysModules)=false ∧
  ∃ xs,KT H kvs xs∧h.DictOfH (tupleKind (wZ P w)) a xs:=by
 obtain⟨z,y,xs,r,o,es,ep,h1,h2,h3,h4,h5⟩:=(show wH P w H h a (.dT kvs) from rd_of ok e)
 refine⟨z,y,xs,r,o,es,ep,h1,h2,h3,h4,fun x hx=>?_,h5⟩
 have all:∀ {l:List (List Key×V)}{m:List (List Key×Addr×Value)},KT H l m→∀ x∈m,(tupleKind (wZ P w)).is h x.1 x.2.1:=by
  intro l m q
  induction q with
  | nil=>intro x hx;exact nomatch hx
  | @cons p q ps qs hq t ih =>
   intro x hx
   rcases List.mem_cons.mp hx with e | hx
   ·subst e
    exact key_of ok (by rw[← hq.1];exact hq.2.1)
   ·exact ih x hx
 exact all r x hx
theorem dt_of {kvs:List (List Key×V)}(ok:HOk P w H h)(e:H a=some (.dT kvs)):kvs.length≤sizeLine∧(a == sysModules)=false ∧
  ∃ xs,KT H kvs xs∧h.DictOfH (tupleKind (wZ P w)) a xs:=dt_rd ok (.inl e)
end
def DGet (H:Hp)(a:Addr)(y:V)(r:Option V):Prop :=
 (∃ kvs k,Rd H a (.dK kvs)∧y=kV k∧r=zDw kvs k)∨∃ kvs k b,Rd H a (.dT kvs)∧y=.ref b∧H b=some (.tup (k.map kV))∧r=zDw kvs k
def DPut (H:Hp)(a:Addr)(y v:V)(H':Hp):Prop :=
 (∃ kvs k,H a=some (.dK kvs)∧y=kV k∧kvs.length < sizeLine∧H'=upd H a (.dK (putK kvs k v))) ∨
 ∃ kvs k b,H a=some (.dT kvs)∧y=.ref b∧H b=some (.tup (k.map kV))∧kvs.length < sizeLine∧H'=upd H a (.dT (putK kvs k v))
theorem DGet.k {H:Hp}{a:Addr}{kvs:List (Key×V)}{k:Key}(e:H a=some (.dK kvs)):DGet H a (kV k) (zDw kvs k):=.inl ⟨kvs,k,.inl e,rfl,rfl⟩
theorem DGet.t {H:Hp}{a b:Addr}{kvs:List (List Key×V)}{k:List Key}(e:H a=some (.dT kvs))(eb:H b=some (.tup (k.map kV))):DGet H a (.ref b) (zDw kvs k):=.inr ⟨kvs,k,b,.inl e,rfl,eb,rfl⟩
theorem DPut.k {H:Hp}{a:Addr}{kvs:List (Key×V)}{k:Key}{v:V}(e:H a=some (.dK kvs))(hl:kvs.length < sizeLine):DPut H a (kV k) v (upd H a (.dK (putK kvs k v))):=.inl ⟨kvs,k,e,rfl,hl,rfl⟩
theorem DPut.t {H:Hp}{a b:Addr}{kvs:List (List Key×V)}{k:List Key}{v:V}(e:H a=some (.dT kvs))(eb:H b=some (.tup (k.map kV)))(hl:kvs.length < sizeLine) :
  DPut H a (.ref b) v (upd H a (.dT (putK kvs k v))):=.inr ⟨kvs,k,b,e,rfl,eb,hl,rfl⟩
section
variable {X:Cx}{pins:List (Addr×Obj)}{σ:St}{H:Hp}{s:Shared}{a:Addr}{y v:V}{u r:Value}{o:Option V}{A:Around}{E:Value→Shared→Prop}
theorem Inv.big (I:Inv X pins σ H s):sysModules < s.heap.objs.size:=by
 have h:mainGlobals < s.heap.objs.size:=(I.mod.glob.keeps I.bk).lt
 exact Nat.lt_trans (by decide) h
theorem d_in {Q:Value→Shared→Prop}(hu:A.units+1 < cLine)(I:Inv X pins σ H s)(g:DGet H a y o)(ry:RelV y u)(h:∀ s',Inv X pins σ H s'→Q (.bool o.isSome) s') :
  wpAny (model X.prog X.w) A (compareOp .In u (.ref a)) Q E s:=by
 rcases g with ⟨kvs,k,e,ey,l⟩ | ⟨kvs,k,b,e,ey,eb,l⟩
 ·subst ey
  obtain⟨z,hd,vs,rel,dd⟩:=dk_rd I.hok e
  refine wpAny_in_of (kV_is ry) hd dd.mapOf ?_
  rw[← (rel.val k).zEj,← l]
  exact h _ (I.tok _)
 ·subst ey
  cases (show u=Value.ref b from ry)
  obtain⟨z,hd,xs,rel,dd⟩:=dt_rd I.hok e
  refine wpAny_in_heap (tupleKind_room_in1 hu) (key_of I.hok eb) hd dd ?_
  have q:=(rel.val k).zEj
  rw[Option.isSome_map] at q
  rw[← q,← l]
  exact h _ (I.tok _)
theorem d_write {h':Heap}{t':Nat}{ob:HO}(I:Inv X pins σ H s)(mu:Mut (H a))(hs:Heap.SameBut a s.heap h')(he:∃ q,h'.get? a=some q)(new:wH X.prog X.w (upd H a ob) h' a ob) :
  Inv X pins σ (upd H a ob) { s with heap:=h',toks:=t' } :=
 I.write (x:=a) (e:=a) mu (.inl rfl) (fun b q hb z=>(hs.2 b hb).trans z) he new
theorem dk_new {P:Program}{w:World}{H':Hp}{h':Heap}{kvs:List (Key×V)}{vs:List (Key×Value)}(z:kvs.length≤sizeLine)(hd:(a == sysModules)=false)(rel:KV kvs vs)(dd:h'.DictOf (wZ P w) a vs) :
  wH P w H' h' a (.dK kvs):=⟨z,hd,vs,rel,dd⟩
theorem d_setItem {H':Hp}{Q:Unit→Shared→Prop}(hu:A.units+1 < cLine)(I:Inv X pins σ H s)(g:DPut H a y v H')(ry:RelV y u)(rv:RelV v r)(h:∀ s',Inv X pins σ H' s'→Q () s') :
  wpAny (model X.prog X.w) A (setItem (.ref a) u r) Q E s:=by
 rcases g with ⟨kvs,k,e,ey,l,eH⟩ | ⟨kvs,k,b,e,ey,eb,l,eH⟩
 ·subst ey eH
  obtain⟨z,hd,vs,rel,dd⟩:=dk_of I.hok e
  have hz:vs.length≤sizeLine:=by rw[← rel.length];exact z
  have hl:(putK kvs k v).length≤sizeLine:=by have:=zBq kvs k v;omega
  refine wpAny_setItem_pairs (hsz:=hz) (kV_is ry) dd fun h' dd' hs=>h _ ?_
  have he:∃ q,h'.get? a=some q:=let ⟨q,_,_,hq,_⟩:=dd';⟨q,hq⟩
  exact d_write I (by rw[e];exact True.intro) hs he (dk_new hl hd (rel.put k rv) dd')
 ·subst ey eH
  cases (show u=Value.ref b from ry)
  obtain⟨z,hd,xs,rel,dd⟩:=dt_of I.hok e
  have hz:xs.length≤sizeLine:=by rw[← Paired.length rel];exact z
  have hl:(putK kvs k v).length≤sizeLine:=by have:=zBq kvs k v;omega
  refine wpAny_setItem_heap (hsz:=hz) (tupleKind_room_in1 hu) (key_of I.hok eb) dd fun h' dd' hs=>h _ ?_
  obtain⟨q,es,ep,hq,h2,h3,h4,_,h5⟩:=dd'
  refine d_write I (by rw[e];exact True.intro) hs ⟨q,hq⟩ ⟨hl,hd,_,(rel.put k eb rv).keeps fun c ys ec=>?_,q,es,ep,hq,h2,h3,h4,h5⟩
  rw[zL (ne_of ec e (fun z=>nomatch z))]
  exact ec
end
section
variable {X:Cx}{pins:List (Addr×Obj)}{σ:St}{H:Hp}{s:Shared}{a:Addr}{kvs:List (Key×V)}{k:Key}{u:Value}{A:Around}{E:Value→Shared→Prop}
end
def sDPut (td ty tv:TE):TS:=fun D σ H=>tv σ H fun v H1=>td σ H1 fun x H2=>ty σ H2 fun y H3=>∃ a H4,x=.ref a∧DPut H3 a y v H4∧D.nx σ H4
section
variable {X:Cx}{o i e value:Expr}{pos pos' tpos:Pos}{td ty tv:TE}
theorem ps_dput (hu:X.A.units+1 < cLine)(ho:PE X o td)(hi:PE X i ty)(hv:PE X value tv)(hs:swapsWith value (some (.Subscript o i pos')) pos.line X.env=pure false) :
  PS X (.Assign [.Subscript o i pos'] value pos) (sDPut td ty tv):=by
 intro pins s σ H D I h
 refine wpAny_Assign_Subscript (thn (hv pins s σ H _ I h) fun r s1 ⟨v,H1,I1,rv,q1⟩=>thn (ho pins s1 σ H1 _ I1 q1) fun u s2 ⟨x,H2,I2,rx,q2⟩=>thn (hi pins s2 σ H2 _ I2 q2) fun iv s3 ⟨y,H3,I3,ry,a,H4,ex,g,q3⟩=>?_) hs
 subst ex
 obtain rfl:u=Value.ref a:=rx
 exact d_setItem hu I3 g ry rv fun s4 I4=>⟨σ,H4,I4,q3⟩
end
theorem dt_empty {P:Program}{w:World}{H:Hp}(h:Heap)(hb:sysModules < h.objs.size):wH P w H (h.push { cls:=.type "dict",data:=.dict #[] }) h.objs.size (.dT []) :=
 ⟨Nat.zero_le _,beq_eq_false_iff_ne.mpr (Ne.symm (Nat.ne_of_lt hb)),[],.nil,_,#[],0,Heap.get?_push_size _ rfl,⟨rfl,rfl,rfl⟩,rfl,rfl,List.nodup_nil⟩
def tDNewT:TE:=fun _ H Q=>∀ p,H p=none→Q (.ref p) (upd H p (.dT []))
section
variable {X:Cx}{pos:Pos}
theorem pe_dnewT:PE X (.Dict [] [] pos) tDNewT:=fun pins s σ H Q I h =>
 wpAny_Dict_empty ⟨.ref s.heap.objs.size,_,I.laid (a:=s.heap.objs.size) (o:=.dT []) (t':=s.toks) (fun _ _ q=>Heap.get?_push_of_some _ q) (Nat.le_refl _) (dt_empty s.heap I.big),rfl,h _ (I.hok.fresh (Nat.le_refl _))⟩
end
structure M1 (X:Cx)(o:Expr)(m:Str)(apos:Pos)(e:Expr)(cpos:Pos):Prop where
 base:attributeBase o m X.env (eval o X.env)=eval o X.env
 few:((backTo cpos (starEach [e] X.env)).all (fun x=>!x.1) && (backToKw cpos (keywordEach [] X.env)).all (fun x=>x.1.isSome)
  && decide (([e]:List Expr).length+([]:List Keyword).length+(if ([]:List Keyword).isEmpty then 0 else 1) < 30))=true
 line:(apos.endLine == cpos.line)=true
 trees:backTo cpos (starEach [e] X.env)=[(false,eval e X.env)]
section
variable {X:Cx}{pins:List (Addr×Obj)}{σ:St}{H:Hp}{s:Shared}{a:Addr}{y d:V}{u r:Value}{o:Option V}{A:Around}{E:Value→Shared→Prop}
end
section
variable {X:Cx}{o e f:Expr}{apos cpos:Pos}{td ty tx:TE}
end
section
variable {X:Cx}{pins:List (Addr×Obj)}{σ:St}{H:Hp}{s:Shared}{a:Addr}{kvs:List (Key×V)}{A:Around}{E:Value→Shared→Prop}
end
section
variable {X:Cx}{pins:List (Addr×Obj)}{σ:St}{H:Hp}{s:Shared}{a:Addr}{y:V}{u:Value}{A:Around}{E:Value→Shared→Prop}
end
end L2
namespace L2
open PySem PySem.Spec PyProof.Rows
section
variable {κ:Type} [DecidableEq κ]
end
end L2
set_option Elab.async false
set_option linter.all false
set_option maxRecDepth 100000
set_option maxHeartbeats 5000000
namespace L2
open PySem PySem.Spec PyProof.Rows PySem.SeqAt
theorem hu1 {A:Around}{k:Nat}(hr:zDm k A):A.units+1 < cLine:=by have:=hr.un;omega
section
variable {X:Cx}
theorem op_din (hu:X.A.units+1 < cLine):OpR X (compareOp .In) (fun y x H Q=>∃ a o,x=.ref a∧DGet H a y o∧Q (.bl o.isSome) H):=by
 intro pins s σ H y x iv u Q I ry rx h
 obtain⟨a,ov,ex,g,q⟩:=h
 subst ex
 obtain rfl:u=Value.ref a:=rx
 exact d_in hu I g ry fun s3 I3=>⟨.bl ov.isSome,H,I3,rfl,q⟩
end
abbrev kI (i:Int):Key:=.inl i
abbrev k2 (p h:Int):List Key:=[.inl p,.inl h]
theorem DGet.p {H:Hp}{a b:Addr}{kvs:List (List Key×V)}{p h:Int}(e:H a=some (.dT kvs))(eb:H b=some (.tup [.int p,.int h])):DGet H a (.ref b) (zDw kvs (k2 p h)):=DGet.t (k:=k2 p h) e eb
theorem DPut.p {H:Hp}{a b:Addr}{kvs:List (List Key×V)}{p h:Int}{v:V}(e:H a=some (.dT kvs))(eb:H b=some (.tup [.int p,.int h]))(hl:kvs.length < sizeLine):DPut H a (.ref b) v (upd H a (.dT (putK kvs (k2 p h) v))):=DPut.t (k:=k2 p h) e eb hl
theorem DGet.i {H:Hp}{a:Addr}{kvs:List (Key×V)}{i:Int}(e:H a=some (.dK kvs)):DGet H a (.int i) (zDw kvs (kI i)):=DGet.k (k:=kI i) e
theorem DPut.i {H:Hp}{a:Addr}{kvs:List (Key×V)}{i:Int}{v:V}(e:H a=some (.dK kvs))(hl:kvs.length < sizeLine):DPut H a (.int i) v (upd H a (.dK (putK kvs (kI i) v))):=DPut.k (k:=kI i) e hl
end L2
set_option Elab.async false
set_option linter.all false
set_option maxRecDepth 100000
set_option maxHeartbeats 5000000
namespace L2
open PySem PySem.Spec PyProof.Rows PySem.SeqAt
section
variable {X:Cx}
theorem call_minL (hc:X.calm=true):zEr X (.builtin "min") (fun xs H Q=>∃ (a:Addr)(ns:List Int),xs=[.ref a]∧SqL X.K H a (ns.map V.int)∧0 < ns.length∧∀ m:Int,m∈ns→(∀ x∈ns,m≤x)→Q (.int m) H):=by
 intro pins s σ H xs us Q I r h
 obtain⟨a,ns,rfl,hl,hz,q⟩:=h
 obtain⟨u,rfl,ru⟩:=vals1 r
 cases ru
 obtain⟨its,rv,pl,_⟩:=I.list hl
 obtain⟨ts,e1,e2⟩:=vals_toks rv
 have hi:s.heap.IsList a (intItems ts.toArray):=by
  have e:intItems ts.toArray=its.toArray:=by rw[e1];simp [intItems]
  rw[e];exact pl.isList
 have tl:ts.length=ns.length:=by rw[← e2,List.length_map]
 have num:∀ j,j < ts.length→ns[j]?=some (numAt ts.toArray j):=fun j hj=>by
  rw[← e2,List.getElem?_map]
  simp [numAt,hj]
 refine min_intList (I.ok.hd hc) hi (by rw[List.size_toArray];omega) fun v h' tk hv hk=>?_
 rw[List.size_toArray] at hv
 have ab:=argBest_lt (numAt ts.toArray) (ts.length-1)
 generalize argBest (fun i j=>decide (numAt ts.toArray i < numAt ts.toArray j)) (ts.length-1)=b at hv ab
 have hb:b < ts.length:=by omega
 have mem:numAt ts.toArray b∈ns:=List.mem_of_getElem? (num b hb)
 have ev:∃ t,v=.int (numAt ts.toArray b) t:=intItems_at hv
 refine⟨.int (numAt ts.toArray b),H,I.kept (t':=tk) hk,ev,q _ mem fun x hx=>?_⟩
 obtain⟨j,hj,ej⟩:=List.getElem_of_mem hx
 have:=num j (by omega)
 rw[List.getElem?_eq_getElem hj] at this
 have:=Option.some.inj this
 rw[← ej,this]
 exact ab.2 j (by omega)
end
end L2
set_option Elab.async false
set_option linter.all false
set_option maxRecDepth 100000
set_option maxHeartbeats 5000000
namespace L2
open PySem PySem.Spec PyProof.Rows PySem.SeqAt
theorem sizeN (n:Nat):Builtin.Range.rangeSize 0 (n:Int) 1=(n:Nat):=by
 unfold Builtin.Range.rangeSize
 rw[if_pos (by decide)]
 split <;> omega
theorem smallN {i k:Int}{n:Nat}(hi:i=0)(hk:k=1)(hn:n≤1000000):Builtin.Range.small i (n:Int) k=true:=by
 have q5:0 < k:=by omega
 have c:Builtin.Range.rangeSize i (n:Int) k=(n:Nat):=by rw[hi,hk];exact sizeN n
 unfold Builtin.Range.small
 rw[c]
 simp only [Builtin.Range.rangeFitsLong,Bool.and_eq_true,Bool.or_eq_true,decide_eq_true_eq,beq_iff_eq,q5,if_true,gt_iff_lt]
 omega
section
variable {X:Cx}
def tLR1 (ta:TA):TE:=fun σ H Q=>ta σ H fun vs H1=>∃ n:Nat,vs=[.int n]∧n≤1000000∧∀ l,H1 l=none→Q (.ref l) (upd H1 l (.lst (((List.range n).map fun (i:Nat)=>(i:Int)).map V.int)))
theorem pe_lrng1 {a:Expr}{ta:TA}{p p2 pos pos2:Pos}(hcm:X.calm=true)(hgl:Gl X "list")(hml:X.mg "list"=none)(hg:Gl X "range")(hm:X.mg "range"=none)(ha:PA X [a] ta)
  (hs:starEach [a] X.env=[(false,eval a X.env)]:=by rfl)
  (he2:starEach [.Call (.Name "range" p2) [a] [] pos2] X.env=(false,eval (.Call (.Name "range" p2) [a] [] pos2) X.env)::starEach [] X.env:=by rfl) :
  PE X (.Call (.Name "list" p) [.Call (.Name "range" p2) [a] [] pos2] [] pos) (tLR1 ta):=by
 intro pins s σ H Q I h
 refine wpAny_Call_Name_kw (jT I hgl hml zBs ?_)
 refine PyProof.Rows.callWith_type1 ?_ he2 rfl
 rw[he2]
 show wpAny _ _ (spliced ((false,eval (.Call (.Name "range" p2) [a] [] pos2) X.env)::backTo pos (starEach [] X.env))) _ _ s
 refine Calls.spliced_cons ?_
 refine Call_ (jT I hg hm boot_range (PyProof.Rows.callWith_type1 (thn (ha pos2 pins s σ H _ I h) fun us s1 ⟨vs,H1,I1,r1,q1⟩=>?_) hs rfl))
 obtain⟨n,e,hn,q⟩:=q1
 subst e
 cases r1 with
 | cons r rr =>
  cases rr
  obtain⟨t,rfl⟩:=r
  refine call_range_1 ?_
  have sm:Builtin.Range.small 0 (n:Int) 1=true:=smallN rfl rfl hn
  refine Calls.spliced_nil ?_
  refine call_list_range (n:=n) ?_ (IsRange.new ..) sm (sizeN n) (by omega) fun h' tk acc' c' kp e items=>?_
  ·exact (I1.kept (t':=s1.toks) (fun b o e=>e)).ok.hd hcm
  have vals:Vals (((List.range n).map fun (i:Nat)=>(i:Int)).map V.int) acc'.toList:=by
   rw[List.map_map]
   refine zAj (by rw[Array.length_toList];exact items.1) fun m v hm=>?_
   have:=items.2 m v (by rw[← Array.getElem?_toList];exact hm)
   obtain⟨t,rfl⟩:=this
   exact⟨t,by simp⟩
  have hz:(((List.range n).map fun (i:Nat)=>(i:Int)).map V.int).length≤sizeLine:=by
   rw[List.length_map,List.length_map,List.length_range];exact Nat.le_trans hn (by decide)
  have I2:Inv X pins σ H1 { s1 with heap:=s1.heap.push { cls:=.type "range",data:=.fields #[.int 0 s1.toks,.int (n:Int) t,.int 1 (s1.toks+1)] },toks:=s1.toks+1+1 }:=I1.kept fun b o e=>Heap.get?_push_of_some _ e
  refine⟨.ref _,_,I2.laid (t':=tk) kp (Nat.le_refl _) (show wH X.prog X.w _ h' _ (.lst (((List.range n).map fun (i:Nat)=>(i:Int)).map V.int)) from ⟨hz,acc'.toList,c',vals,by simpa using e⟩),rfl,q _ (I2.hok.fresh (Nat.le_refl _))⟩
end
end L2
set_option Elab.async false
set_option linter.all false
set_option maxRecDepth 100000
set_option maxHeartbeats 5000000
namespace L2
open PySem PySem.Spec PyProof.Rows PySem.SeqAt
end L2
namespace L2
open PySem PySem.Spec PyProof.Rows PySem.SeqAt
end L2
set_option Elab.async false
set_option linter.all false
set_option maxRecDepth 100000
set_option maxHeartbeats 5000000
namespace L2
open PySem PySem.Spec PyProof.Rows PySem.SeqAt
theorem zDp {c A B:Prop} [Decidable c] (h:c)(a:A):if c then A else B:=by rw[if_pos h];exact a
theorem zBf {c A B:Prop} [Decidable c] (h:¬ c)(b:B):if c then A else B:=by rw[if_neg h];exact b
theorem cut_from (ns:List Int)(k:Nat):cutV (ns.map V.int) (some (k:Int)) none=(ns.drop k).map V.int:=by
 unfold cutV
 rw[HT.sIx_nat,HT.sIx_none,List.length_map,← List.map_drop,← List.map_take]
 congr 1
 by_cases h:k≤ns.length
 ·rw[Nat.min_eq_left h,List.take_of_length_le (by rw[List.length_drop];omega)]
 ·rw[Nat.min_eq_right (by omega),List.drop_of_length_le (Nat.le_refl _),List.drop_of_length_le (by omega)];simp
end L2
set_option Elab.async false
set_option linter.all false
set_option maxRecDepth 100000
set_option maxHeartbeats 5000000
namespace L2
open PySem PySem.Spec PyProof.Rows
theorem zt_typeCall (a b c:Value):checkTypeCall "zip" ⟨[a,b,c],[]⟩=pure ():=by kernel_rfl
theorem zt_newCall (a b c:Value):checkBuiltinCall "zip.__new__" ⟨[.type "zip",a,b,c],[]⟩=pure ():=by kernel_rfl
theorem zt_init (a b c d:Value):argsOk "object.__init__" ⟨[a,b,c,d],[]⟩:=by
 unfold argsOk;rw[PySem.signature?_of (id:="object.__init__") (n:=['_','_','t','i','n','i','_','_']) (o:=['t','c','e','j','b','o']) (by kernel_rfl) F.owner_object];kernel_rfl
abbrev wF (h:Heap)(T:Addr)(a b c:Value):Prop:=h.get? T=some { cls:=.type "tuple",data:=.seq #[a,b,c] }
structure ZtAp (z TI TO i1 i2 i3 l1 l2 l3:Addr):Prop where
 dI:TI≠z∧TI≠TO∧TI≠i1∧TI≠i2∧TI≠i3
 dO:TO≠z∧TO≠i1∧TO≠i2∧TO≠i3
 d1:i1≠z∧i1≠TO∧i1≠i2∧i1≠i3
 d2:i2≠z∧i2≠TO∧i2≠i1∧i2≠i3
 d3:i3≠z∧i3≠TO∧i3≠i1∧i3≠i2
 m1:l1≠z∧l1≠TO∧l1≠i1∧l1≠i2∧l1≠i3
 m2:l2≠z∧l2≠TO∧l2≠i1∧l2≠i2∧l2≠i3
 m3:l3≠z∧l3≠TO∧l3≠i1∧l3≠i2∧l3≠i3
section
variable {prog:Program}{w:World}{A:Around}{E:Value→Shared→Prop}{s:Shared}
theorem zt_upd {T:Addr}{a b c x:Value}{k:Nat}{Q:Unit→Shared→Prop}(hT:wF s.heap T a b c)(h:∀ h',h'.get? T=some { cls:=.type "tuple",data:=.seq ((#[a,b,c]:Array Value).setIfInBounds k x) }→Heap.SameBut T s.heap h'→Q () { s with heap:=h' }) :
  wpAny (model prog w) A (updateSeq T (·.setIfInBounds k x)) Q E s:=by
 refine wpAny_updateSeq hT rfl (h _ ?_ (Heap.SameBut.update ..));rw[Heap.get?_update_self _ hT rfl];simp [Obj.mapSeq]
theorem zt_item {z TI TO i1 i2 i3 l1 l2 l3:Addr}{k1 k2 k3:Nat}{xs ys zs:Array Value}{x y v a b c:Value}{Q:Value→Shared→Prop}(D:ZtAp z TI TO i1 i2 i3 l1 l2 l3)
  (hz:IsZip s.heap z TI TO .none)(hTI:wF s.heap TI (.ref i1) (.ref i2) (.ref i3))(hTO:wF s.heap TO a b c)
  (h1:s.heap.IsListIter i1 l1 k1)(h2:s.heap.IsListIter i2 l2 k2)(h3:s.heap.IsListIter i3 l3 k3)(hl1:s.heap.IsList l1 xs)(hl2:s.heap.IsList l2 ys)(hl3:s.heap.IsList l3 zs)(hx:xs[k1]?=some x)(hy:ys[k2]?=some y)(hv:zs[k3]?=some v)
  (hQ:∀ h',IsZip h' z TI TO (rawInt s.heap.objs.size)→wF h' TO x y v→h'.IsListIter i1 l1 (k1+1)→h'.IsListIter i2 l2 (k2+1)→h'.IsListIter i3 l3 (k3+1)→wF h' s.heap.objs.size x y v →
   (∀ c o,c≠z→c≠TO→c≠i1→c≠i2→c≠i3→s.heap.get? c=some o→h'.get? c=some o)→Q (.ref s.heap.objs.size) { s with heap:=h' }) :
  wpAny (model prog w) A (Builtin.«zip.__next__» ⟨[.ref z],[]⟩) (fun fin s'=>∃ v,fin=.done (.ret v)∧Q v s') E s:=by
 show wpAny _ _ (field (.ref z) 2 >>= _) _ _ _;refine wpAny_bind (wpAny_field hz rfl (x:=.bool false) rfl ?_)
 show wpAny _ _ (field (.ref z) 3 >>= _) _ _ _;refine wpAny_bind (wpAny_field hz rfl (x:=.ref TI) rfl ?_)
 refine wpAny_bind (wpAny_seqItems hTI rfl ?_);show wpAny _ _ (Builtin.SmallTypes.ownedTupleIsFree (.ref z) >>= _) _ _ _
 refine wpAny_bind ?_;unfold Builtin.SmallTypes.ownedTupleIsFree
 refine wpAny_bind (wpAny_field hz rfl (x:=.none) rfl (wpAny_pure ?_));simp only [if_true]
 refine wpAny_bind (wpAny_rule ?_);refine wpAny_bind (wpAny_field hz rfl (x:=.ref TO) rfl ?_)
 refine wpAny_bind (wpAny_setField_rec hz (by simp) fun g1 hz1 hs1=>?_);replace hz1:IsZip g1 z TI TO .ellipsis:=hz1
 have u1:∀ c o,c≠z→s.heap.get? c=some o→g1.get? c=some o:=fun c o n e=>hs1.extBut c o n e
 refine wpAny_bind ?_;simp only [List.zipIdx_cons,List.zipIdx_nil,List.forIn_cons,List.forIn_nil]
 refine wpAny_bind (wpAny_bind (wpAny_onRaise ?_));show wpAny _ _ (Builtin.SmallTypes.nextOf (.ref i1) >>= _) _ _ _
 refine wpAny_bind (wpAny_nextOf_list_item (h1.at fun o e=>u1 _ o D.d1.1 e) (hl1.at fun o e=>u1 _ o D.m1.1 e) hx fun g2 h12 hs2=>wpAny_pure ?_)
 have u2:∀ c o,c≠z→c≠i1→s.heap.get? c=some o→g2.get? c=some o:=fun c o n m e=>hs2.extBut c o m (u1 c o n e)
 have hTO2:wF g2 TO a b c:=u2 _ _ D.dO.1 D.dO.2.1 hTO
 refine wpAny_bind (wpAny_seqItems hTO2 rfl ?_);refine wpAny_bind (zt_upd hTO2 fun g3 hTO3 hs3=>?_);replace hTO3:wF g3 TO x b c:=hTO3
 have u3:∀ c o,c≠z→c≠i1→c≠TO→s.heap.get? c=some o→g3.get? c=some o:=fun c o n m q e=>hs3.extBut c o q (u2 c o n m e)
 refine wpAny_bind (wpAny_letGo (wpAny_pure ?_))
 refine wpAny_bind (wpAny_bind (wpAny_onRaise ?_));show wpAny _ _ (Builtin.SmallTypes.nextOf (.ref i2) >>= _) _ _ _
 refine wpAny_bind (wpAny_nextOf_list_item (h2.at fun o e=>u3 _ o D.d2.1 D.d2.2.2.1 D.d2.2.1 e) (hl2.at fun o e=>u3 _ o D.m2.1 D.m2.2.2.1 D.m2.2.1 e) hy fun g4 h24 hs4=>wpAny_pure ?_)
 have u4:∀ c o,c≠z→c≠i1→c≠TO→c≠i2→s.heap.get? c=some o→g4.get? c=some o:=fun c o n m q r e=>hs4.extBut c o r (u3 c o n m q e)
 have hTO4:wF g4 TO x b c:=hs4.extBut _ _ D.dO.2.2.1 hTO3
 refine wpAny_bind (wpAny_seqItems hTO4 rfl ?_);refine wpAny_bind (zt_upd hTO4 fun g5 hTO5 hs5=>?_);replace hTO5:wF g5 TO x y c:=hTO5
 have u5:∀ c o,c≠z→c≠i1→c≠TO→c≠i2→s.heap.get? c=some o→g5.get? c=some o:=fun c o n m q r e=>hs5.extBut c o q (u4 c o n m q r e)
 refine wpAny_bind (wpAny_letGo (wpAny_pure ?_))
 refine wpAny_bind (wpAny_bind (wpAny_onRaise ?_));show wpAny _ _ (Builtin.SmallTypes.nextOf (.ref i3) >>= _) _ _ _
 refine wpAny_bind (wpAny_nextOf_list_item (h3.at fun o e=>u5 _ o D.d3.1 D.d3.2.2.1 D.d3.2.1 D.d3.2.2.2 e) (hl3.at fun o e=>u5 _ o D.m3.1 D.m3.2.2.1 D.m3.2.1 D.m3.2.2.2.1 e) hv fun g6 h36 hs6=>wpAny_pure ?_)
 have u6:∀ c o,c≠z→c≠i1→c≠TO→c≠i2→c≠i3→s.heap.get? c=some o→g6.get? c=some o:=fun c o n m q r t e=>hs6.extBut c o t (u5 c o n m q r e)
 have hTO6:wF g6 TO x y c:=hs6.extBut _ _ D.dO.2.2.2 hTO5
 refine wpAny_bind (wpAny_seqItems hTO6 rfl ?_);refine wpAny_bind (zt_upd hTO6 fun g7 hTO7 hs7=>?_);replace hTO7:wF g7 TO x y v:=hTO7
 have u7:∀ c o,c≠z→c≠i1→c≠TO→c≠i2→c≠i3→s.heap.get? c=some o→g7.get? c=some o:=fun c o n m q r t e=>hs7.extBut c o q (u6 c o n m q r t e)
 refine wpAny_bind (wpAny_letGo (wpAny_pure (wpAny_pure ?_)));refine wpAny_bind (wpAny_seqItems hTO7 rfl ?_);refine wpAny_bind (wpAny_newTuple ?_)
 have hsz:g7.objs.size=s.heap.objs.size:=by rw[hs7.1,hs6.1,hs5.1,hs4.1,hs3.1,hs2.1,hs1.1]
 have hz7:IsZip g7 z TI TO .ellipsis:=hs7.extBut _ _ D.dO.1.symm (hs6.extBut _ _ D.d3.1.symm (hs5.extBut _ _ D.dO.1.symm (hs4.extBut _ _ D.d2.1.symm (hs3.extBut _ _ D.dO.1.symm (hs2.extBut _ _ D.d1.1.symm hz1)))))
 have h17:g7.IsListIter i1 l1 (k1+1):=h12.at fun o e=>hs7.extBut _ o D.d1.2.1 (hs6.extBut _ o D.d1.2.2.2 (hs5.extBut _ o D.d1.2.1 (hs4.extBut _ o D.d1.2.2.1 (hs3.extBut _ o D.d1.2.1 e))))
 have h27:g7.IsListIter i2 l2 (k2+1):=h24.at fun o e=>hs7.extBut _ o D.d2.2.1 (hs6.extBut _ o D.d2.2.2.2 (hs5.extBut _ o D.d2.2.1 e))
 have h37:g7.IsListIter i3 l3 (k3+1):=h36.at fun o e=>hs7.extBut _ o D.d3.2.1 e
 have zlt:z < g7.objs.size:=Heap.lt_size hz7
 show wpAny _ _ (Builtin.SmallTypes.ownedTupleHandOut (.ref z) (.ref g7.objs.size) >>= _) _ _ _
 refine wpAny_bind ?_;unfold Builtin.SmallTypes.ownedTupleHandOut
 have hz8:IsZip (g7.push { cls:=.type "tuple",data:=.seq #[x,y,v] }) z TI TO .ellipsis:=Heap.get?_push_of_some _ hz7
 refine wpAny_bind (wpAny_setField_rec hz8 (by simp) fun g8 hz9 hs8=>?_);replace hz9:IsZip g8 z TI TO (rawInt g7.objs.size):=hz9
 refine wpAny_setField_rec hz9 (by simp) fun g9 hzA hs9=>?_;replace hzA:IsZip g9 z TI TO (rawInt g7.objs.size):=hzA
 have up:∀ c o,c≠z→g7.get? c=some o→g9.get? c=some o:=fun c o c1 e=>hs9.extBut _ _ c1 (hs8.extBut _ _ c1 (Heap.get?_push_of_some _ e))
 have hT9:wF g9 g7.objs.size x y v:=hs9.extBut _ _ (Nat.ne_of_gt zlt) (hs8.extBut _ _ (Nat.ne_of_gt zlt) (Heap.get?_push_size _ rfl))
 rw[hsz] at hzA hT9
 refine wpAny_pure ⟨_,rfl,?_⟩;show Q (.ref g7.objs.size) _;rw[hsz]
 exact hQ g9 hzA (up _ _ D.dO.1 hTO7) (h17.at fun o e=>up _ o D.d1.1 e) (h27.at fun o e=>up _ o D.d2.1 e) (h37.at fun o e=>up _ o D.d3.1 e) hT9 fun c o c1 c2 c3 c4 c5 e=>up c o c1 (u7 c o c1 c3 c2 c4 c5 e)
theorem zt_end {z TI TO i1 i2 i3 l1:Addr}{k1:Nat}{xs:Array Value}{Q:PySem.Fin→Shared→Prop}(hh:A.handled=none)(n1:i1≠z)(n2:l1≠z)
  (hz:IsZip s.heap z TI TO .none)(hTI:wF s.heap TI (.ref i1) (.ref i2) (.ref i3))(h1:s.heap.IsListIter i1 l1 k1)(hl1:s.heap.IsList l1 xs)(hx:xs[k1]?=none)
  (hE:∀ h' e,(∀ c o,c≠z→c≠i1→s.heap.get? c=some o→h'.get? c=some o)→(∃ o,h'.get? e=some o∧o.cls=.type "StopIteration")→E (.ref e) { s with heap:=h' }) :
  wpAny (model prog w) A (Builtin.«zip.__next__» ⟨[.ref z],[]⟩) Q E s:=by
 show wpAny _ _ (field (.ref z) 2 >>= _) _ _ _;refine wpAny_bind (wpAny_field hz rfl (x:=.bool false) rfl ?_)
 show wpAny _ _ (field (.ref z) 3 >>= _) _ _ _;refine wpAny_bind (wpAny_field hz rfl (x:=.ref TI) rfl ?_)
 refine wpAny_bind (wpAny_seqItems hTI rfl ?_);show wpAny _ _ (Builtin.SmallTypes.ownedTupleIsFree (.ref z) >>= _) _ _ _
 refine wpAny_bind ?_;unfold Builtin.SmallTypes.ownedTupleIsFree
 refine wpAny_bind (wpAny_field hz rfl (x:=.none) rfl (wpAny_pure ?_));simp only [if_true]
 refine wpAny_bind (wpAny_rule ?_);refine wpAny_bind (wpAny_field hz rfl (x:=.ref TO) rfl ?_)
 refine wpAny_bind (wpAny_setField_rec hz (by simp) fun g1 hz1 hs1=>?_);replace hz1:IsZip g1 z TI TO .ellipsis:=hz1
 refine wpAny_bind ?_;simp only [List.zipIdx_cons,List.zipIdx_nil,List.forIn_cons,List.forIn_nil]
 refine wpAny_bind (wpAny_bind (wpAny_onRaise ?_));show wpAny _ _ (Builtin.SmallTypes.nextOf (.ref i1) >>= _) _ _ _
 refine wpAny_bind (wpAny_nextOf_list_end hh (h1.extBut hs1.extBut n1) (hl1.extBut hs1.extBut n2) hx fun g2 e hs2 he=>?_)
 obtain⟨oe,hoe,hce⟩:=he
 have hz2:IsZip g2 z TI TO .ellipsis:=hs2 _ _ n1.symm hz1
 have hez:e≠z:=fun q=>by subst q;rw[hz2] at hoe;cases hoe;simp at hce
 refine wpAny_setField_rec hz2 (by simp) fun g3 _ hs3=>hE g3 e (fun c o c1 c3 q=>hs3.extBut _ _ c1 (hs2 _ _ c3 (hs1.extBut _ _ c1 q))) ⟨oe,hs3.extBut _ _ hez hoe,hce⟩
theorem zt_next {z TI TO i1 i2 i3 l1 l2 l3:Addr}{k1 k2 k3:Nat}{xs ys zs:Array Value}{x y v a b c:Value}{Q:Option Value→Shared→Prop}(D:ZtAp z TI TO i1 i2 i3 l1 l2 l3)
  (hz:IsZip s.heap z TI TO .none)(hTI:wF s.heap TI (.ref i1) (.ref i2) (.ref i3))(hTO:wF s.heap TO a b c)
  (h1:s.heap.IsListIter i1 l1 k1)(h2:s.heap.IsListIter i2 l2 k2)(h3:s.heap.IsListIter i3 l3 k3)(hl1:s.heap.IsList l1 xs)(hl2:s.heap.IsList l2 ys)(hl3:s.heap.IsList l3 zs)(hx:xs[k1]?=some x)(hy:ys[k2]?=some y)(hv:zs[k3]?=some v)
  (hQ:∀ h',IsZip h' z TI TO (rawInt s.heap.objs.size)→wF h' TO x y v→h'.IsListIter i1 l1 (k1+1)→h'.IsListIter i2 l2 (k2+1)→h'.IsListIter i3 l3 (k3+1)→wF h' s.heap.objs.size x y v →
   (∀ c o,c≠z→c≠TO→c≠i1→c≠i2→c≠i3→s.heap.get? c=some o→h'.get? c=some o)→Q (some (.ref s.heap.objs.size)) { s with heap:=h' }) :
  wpAny (model prog w) A (pyNext (.ref z)) Q E s:=by
 have hT:s.TypeIs (.ref z) "zip":=⟨_,hz,rfl⟩
 unfold pyNext;exact wpAny_bind (wpAny_attempt (wpAny_callSpecial?_slot (name:=Str.ofString "__next__") hT F.slot_zip_next (wpAny_call_entry F.slot_zip_next hT F.entry_zip_next (zt_item D hz hTI hTO h1 h2 h3 hl1 hl2 hl3 hx hy hv fun h' a1 a2 a3 a4 a5 a6 a7=>wpAny_pure (hQ h' a1 a2 a3 a4 a5 a6 a7)) (F.args_zip_next_1 _))))
theorem zt_stop {z TI TO i1 i2 i3 l1:Addr}{k1:Nat}{xs:Array Value}{Q:Option Value→Shared→Prop}(hh:A.handled=none)(n1:i1≠z)(n2:l1≠z)
  (hz:IsZip s.heap z TI TO .none)(hTI:wF s.heap TI (.ref i1) (.ref i2) (.ref i3))(h1:s.heap.IsListIter i1 l1 k1)(hl1:s.heap.IsList l1 xs)(hx:xs[k1]?=none)
  (hQ:∀ h',(∀ c o,c≠z→c≠i1→s.heap.get? c=some o→h'.get? c=some o)→Q none { s with heap:=h' }):wpAny (model prog w) A (pyNext (.ref z)) Q E s:=by
 have hT:s.TypeIs (.ref z) "zip":=⟨_,hz,rfl⟩
 unfold pyNext;refine wpAny_bind (wpAny_attempt (wpAny_callSpecial?_slot (name:=Str.ofString "__next__") hT F.slot_zip_next (wpAny_call_entry F.slot_zip_next hT F.entry_zip_next (zt_end hh n1 n2 hz hTI h1 hl1 hx fun h' e hk he=>?_) (F.args_zip_next_1 _))))
 obtain⟨o,ho,hc⟩:=he;refine wpAny_bind (wpAny_isInstance (T:="StopIteration") (b:=true) ⟨o,ho,hc⟩ isSubtype_stop ?_);exact wpAny_pure (hQ _ hk)
end
abbrev ztH1 (h:Heap)(l:Addr):Heap:=h.push { cls:=.type "list_iterator",data:=.fields #[.ref l,.int 0 0] }
abbrev ztH3 (h:Heap)(l1 l2 l3:Addr):Heap:=ztH1 (ztH1 (ztH1 h l1) l2) l3
abbrev ztH4 (h:Heap)(l1 l2 l3:Addr):Heap:=(ztH3 h l1 l2 l3).push { cls:=.type "tuple",data:=.seq #[.ref h.objs.size,.ref (ztH1 h l1).objs.size,.ref (ztH1 (ztH1 h l1) l2).objs.size] }
abbrev ztH5 (h:Heap)(l1 l2 l3:Addr):Heap:=(ztH4 h l1 l2 l3).push { cls:=.type "tuple",data:=.seq #[.none,.none,.none] }
abbrev ztH6 (h:Heap)(l1 l2 l3:Addr):Heap:=(ztH5 h l1 l2 l3).push { cls:=.type "zip",data:=.fields #[.none,.bool false,.bool false,.ref (ztH3 h l1 l2 l3).objs.size,.ref (ztH4 h l1 l2 l3).objs.size] }
theorem zt_meets (l1 l2 l3:Addr)(xs ys zs:Array Value) :
  Meets (Builtin.«zip.__new__» ⟨[.type "zip",.ref l1,.ref l2,.ref l3],[]⟩) (fun _ R s=>s.heap.IsList l1 xs∧s.heap.IsList l2 ys∧s.heap.IsList l3 zs ∧
   R (.ok (.ret (.ref (ztH5 s.heap l1 l2 l3).objs.size))) { s with heap:=ztH6 s.heap l1 l2 l3 }) :=
 .of_wp fun prog w A R s h=>by
  obtain⟨hp,g,d,tk,os⟩:=s;obtain⟨hl1,hl2,hl3,h⟩:=h;have hsub:=sub_zip
  have hL1:Heap.IsList (Shared.heap ⟨hp,g,d,tk,os⟩) l1 xs:=hl1
  have hL2:Heap.IsList (Shared.heap ⟨ztH1 hp l1,g,d,tk,os⟩) l2 ys:=Heap.IsList.push hl2 _
  have hL3:Heap.IsList (Shared.heap ⟨ztH1 (ztH1 hp l1) l2,g,d,tk,os⟩) l3 zs:=Heap.IsList.push (Heap.IsList.push hl3 _) _
  wp_walk using wpAny_pyIter_list hL1,wpAny_pyIter_list hL2,wpAny_pyIter_list hL3
  exact⟨_,rfl,h⟩
theorem zt_call {prog:Program}{w:World}{A:Around}{E:Value→Shared→Prop}{s:Shared}{l1 l2 l3:Addr}{xs ys zs:Array Value}{Q:Value→Shared→Prop}(hl1:s.heap.IsList l1 xs)(hl2:s.heap.IsList l2 ys)(hl3:s.heap.IsList l3 zs)
  (h:∀ h',IsZip h' (s.heap.objs.size+5) (s.heap.objs.size+3) (s.heap.objs.size+4) .none→wF h' (s.heap.objs.size+3) (.ref s.heap.objs.size) (.ref (s.heap.objs.size+1)) (.ref (s.heap.objs.size+2)) →
   wF h' (s.heap.objs.size+4) .none .none .none→h'.IsListIter s.heap.objs.size l1 0→h'.IsListIter (s.heap.objs.size+1) l2 0→h'.IsListIter (s.heap.objs.size+2) l3 0→(∀ c o,s.heap.get? c=some o→h'.get? c=some o)→Q (.ref (s.heap.objs.size+5)) { s with heap:=h' }) :
  wpAny (model prog w) A (call (.type "zip") [.ref l1,.ref l2,.ref l3]) Q E s:=by
 refine callType_new F.called_zip (by decide) (zt_typeCall _ _ _) (zt_newCall _ _ _) (fun obj=>zt_init obj _ _ _) F.entry_zip_new (zt_meets l1 l2 l3 xs ys zs) ⟨hl1,hl2,hl3,?_⟩
 have z1:(ztH1 s.heap l1).objs.size=s.heap.objs.size+1:=Heap.size_push ..
 have z2:(ztH1 (ztH1 s.heap l1) l2).objs.size=s.heap.objs.size+2:=by rw[Heap.size_push,z1]
 have z3:(ztH3 s.heap l1 l2 l3).objs.size=s.heap.objs.size+3:=by rw[Heap.size_push,z2]
 have z4:(ztH4 s.heap l1 l2 l3).objs.size=s.heap.objs.size+4:=by rw[Heap.size_push,z3]
 have z5:(ztH5 s.heap l1 l2 l3).objs.size=s.heap.objs.size+5:=by rw[Heap.size_push,z4]
 have k1:∀ c o,(ztH5 s.heap l1 l2 l3).get? c=some o→(ztH6 s.heap l1 l2 l3).get? c=some o:=fun c o e=>Heap.get?_push_of_some _ e
 have k2:∀ c o,(ztH4 s.heap l1 l2 l3).get? c=some o→(ztH6 s.heap l1 l2 l3).get? c=some o:=fun c o e=>k1 c o (Heap.get?_push_of_some _ e)
 have k3:∀ c o,(ztH3 s.heap l1 l2 l3).get? c=some o→(ztH6 s.heap l1 l2 l3).get? c=some o:=fun c o e=>k2 c o (Heap.get?_push_of_some _ e)
 have k4:∀ c o,(ztH1 (ztH1 s.heap l1) l2).get? c=some o→(ztH6 s.heap l1 l2 l3).get? c=some o:=fun c o e=>k3 c o (Heap.get?_push_of_some _ e)
 have k5:∀ c o,(ztH1 s.heap l1).get? c=some o→(ztH6 s.heap l1 l2 l3).get? c=some o:=fun c o e=>k4 c o (Heap.get?_push_of_some _ e)
 have e6:(ztH6 s.heap l1 l2 l3).get? (ztH5 s.heap l1 l2 l3).objs.size=some _:=Heap.get?_push_size _ rfl
 have e5:(ztH6 s.heap l1 l2 l3).get? (ztH4 s.heap l1 l2 l3).objs.size=some _:=k1 _ _ (Heap.get?_push_size _ rfl)
 have e4:(ztH6 s.heap l1 l2 l3).get? (ztH3 s.heap l1 l2 l3).objs.size=some _:=k2 _ _ (Heap.get?_push_size _ rfl)
 have e3:(ztH6 s.heap l1 l2 l3).get? (ztH1 (ztH1 s.heap l1) l2).objs.size=some _:=k3 _ _ (Heap.get?_push_size _ rfl)
 have e2:(ztH6 s.heap l1 l2 l3).get? (ztH1 s.heap l1).objs.size=some _:=k4 _ _ (Heap.get?_push_size _ rfl)
 have e1:(ztH6 s.heap l1 l2 l3).get? s.heap.objs.size=some _:=k5 _ _ (Heap.get?_push_size _ rfl)
 show _∧_
 rw[z3,z4,z5] at e6
 rw[z4] at e5
 rw[z1,z2,z3] at e4
 rw[z2] at e3
 rw[z1] at e2
 rw[z5]
 exact⟨⟨_,e6,rfl⟩,h _ e6 e4 e5 ⟨_,e1,rfl,rfl⟩ ⟨_,e2,rfl,rfl⟩ ⟨_,e3,rfl,rfl⟩ fun c o q=>k5 c o (Heap.get?_push_of_some _ q)⟩
theorem ztAp_new {n l1 l2 l3:Nat}(h1:l1 < n)(h2:l2 < n)(h3:l3 < n):ZtAp (n+5) (n+3) (n+4) n (n+1) (n+2) l1 l2 l3:=by
 refine⟨?_,?_,?_,?_,?_,?_,?_,?_⟩ <;> refine⟨?_,?_,?_,?_⟩ <;> (try refine⟨?_,?_⟩) <;> show (_:Nat)≠_ <;> omega
def Ity (K:PySem.W.Frag)(a b c:Addr):It :=
  ⟨fun i H=>∃ xs ys zs x y v,SqL K H a xs∧SqL K H b ys∧SqL K H c zs∧xs[i]?=some x∧ys[i]?=some y∧zs[i]?=some v,fun i H u H'=>∃ p x y v,u=.ref p∧H p=none∧(∀ xs,SqL K H a xs→xs[i]?=some x)∧(∀ ys,SqL K H b ys→ys[i]?=some y)∧(∀ zs,SqL K H c zs→zs[i]?=some v)∧H'=upd H p (.tup [x,y,v]),
   fun i H=>∃ xs,SqL K H a xs∧xs.length≤i⟩
theorem turn_zt {P:Program}{w:World}{K:PySem.W.Frag}{elts:List Expr}{x1}{pos:Pos}(a b c z TI TO i1 i2 i3:Addr)(D:ZtAp z TI TO i1 i2 i3 a b c):Turn P w K (.Tuple elts x1 pos) (Ity K a b c) [z,TI,TO,i1,i2,i3] z
  (fun i h=>IsZip h z TI TO .none∧wF h TI (.ref i1) (.ref i2) (.ref i3)∧(∃ u v t,wF h TO u v t)∧h.IsListIter i1 a i∧h.IsListIter i2 b i∧h.IsListIter i3 c i) where
 mem:=by simp
 obj:=fun i h st d hd=>by
  obtain⟨hz,h1,⟨u,v,t,h2⟩,⟨o1,e1,c1,d1⟩,⟨o2,e2,c2,d2⟩,⟨o3,e3,c3,d3⟩⟩:=st
  simp only [List.mem_cons,List.not_mem_nil,or_false] at hd
  rcases hd with rfl | rfl | rfl | rfl | rfl | rfl
  ·exact⟨_,hz,fun v q=>by
    have q':Data.fields _=Data.cell v:=q
    cases q'⟩
  ·exact⟨_,h1,fun v q=>by
    have q':Data.seq _ _=Data.cell v:=q
    cases q'⟩
  ·exact⟨_,h2,fun v q=>by
    have q':Data.seq _ _=Data.cell v:=q
    cases q'⟩
  ·exact⟨o1,e1,fun v q=>by rw[d1] at q;cases q⟩
  ·exact⟨o2,e2,fun v q=>by rw[d2] at q;cases q⟩
  ·exact⟨o3,e3,fun v q=>by rw[d3] at q;cases q⟩
 keep:=fun i h h' st k=>by
  obtain⟨hz,h1,⟨u,v,t,h2⟩,s1,s2,s3⟩:=st
  exact⟨k z (by simp) _ hz,k TI (by simp) _ h1,⟨u,v,t,k TO (by simp) _ h2⟩,s1.at fun o e=>k i1 (by simp) o e,s2.at fun o e=>k i2 (by simp) o e,s3.at fun o e=>k i3 (by simp) o e⟩
 item:=by
  intro X hP hw hK hc i pins s σ H E I hf st hg
  subst hP hw hK
  obtain⟨hz,h1,⟨u0,v0,t0,h2⟩,s1,s2,s3⟩:=st
  obtain⟨xs,ys,zs,x,y,v,hq,hq',hq2,hx,hy,hv⟩:=hg
  obtain⟨its,rv,p,hzl⟩:=I.list hq
  obtain⟨its',rv',p',hzl'⟩:=I.list hq'
  obtain⟨its2,rv2,p2,hzl2⟩:=I.list hq2
  obtain⟨u,hu,ru⟩:=rv.get hx
  obtain⟨u',hu',ru'⟩:=rv'.get hy
  obtain⟨u2,hu2,ru2⟩:=rv2.get hv
  have ltz:z < s.heap.objs.size:=Heap.lt_size hz
  have lt1:TI < s.heap.objs.size:=Heap.lt_size h1
  have lt2:TO < s.heap.objs.size:=Heap.lt_size h2
  have lti:i1 < s.heap.objs.size:=by obtain⟨o,e1,_⟩:=s1;exact Heap.lt_size e1
  have ltj:i2 < s.heap.objs.size:=by obtain⟨o,e1,_⟩:=s2;exact Heap.lt_size e1
  have ltk:i3 < s.heap.objs.size:=by obtain⟨o,e1,_⟩:=s3;exact Heap.lt_size e1
  refine zt_next D hz h1 h2 s1 s2 s3 p.isList p'.isList p2.isList (x:=u) (y:=u') (v:=u2) (by simpa using hu) (by simpa using hu') (by simpa using hu2) fun g1 a1 a2 a3 a4 a5 a6 hk=>?_
  refine⟨_,rfl,wpAny_letOwnedTupleGo_zip a1 fun g2 he2 hs2=>?_⟩
  replace hs2:Heap.SameBut z g1 g2:=hs2
  have nm:∀ b,b∉[z,TI,TO,i1,i2,i3]→b≠z∧b≠TO∧b≠i1∧b≠i2∧b≠i3:=fun b hb=>⟨fun q=>hb (by simp [q]),fun q=>hb (by simp [q]),fun q=>hb (by simp [q]),fun q=>hb (by simp [q]),fun q=>hb (by simp [q])⟩
  have IT:=I.turnedT (t':=s.toks) (h':=g2) (its:=[z,TI,TO,i1,i2,i3]) (xs:=[x,y,v]) (us:=[u,u',u2]) (fun b o hb q=>hs2.extBut b o (nm b hb).1 (hk b o (nm b hb).1 (nm b hb).2.1 (nm b hb).2.2.1 (nm b hb).2.2.2.1 (nm b hb).2.2.2.2 q)) hf
   (fun b hb=>by
    simp only [List.mem_cons,List.not_mem_nil,or_false] at hb
    rcases hb with rfl | rfl | rfl | rfl | rfl | rfl <;> assumption)
   (hs2.extBut _ _ (Nat.ne_of_gt ltz) a6) (by show 3≤sizeLine;decide) (.cons ru (.cons ru' (.cons ru2 .nil)))
  exact⟨.ref s.heap.objs.size,_,IT.1,rfl,⟨_,x,y,v,rfl,I.hok.fresh (Nat.le_refl _),fun ys hy'=>by rw[I.zAb hy' hq];exact hx,fun ys hy'=>by rw[I.zAb hy' hq'];exact hy,fun ys hy'=>by rw[I.zAb hy' hq2];exact hv,rfl⟩,
   ⟨he2,hs2.extBut _ _ D.dI.1 (hk _ _ D.dI.1 D.dI.2.1 D.dI.2.2.1 D.dI.2.2.2.1 D.dI.2.2.2.2 h1),⟨_,_,_,hs2.extBut _ _ D.dO.1 a2⟩,a3.extBut hs2.extBut D.d1.1,a4.extBut hs2.extBut D.d2.1,a5.extBut hs2.extBut D.d3.1⟩,IT.2⟩
 done:=by
  intro X hP hw hK hc i pins s σ H E I hf st hg
  subst hP hw hK
  obtain⟨hz,h1,⟨u0,v0,t0,h2⟩,s1,s2,s3⟩:=st
  obtain⟨xs,hq,hx⟩:=hg
  obtain⟨its,rv,p,hzl⟩:=I.list hq
  have hl:=rv.length
  refine zt_stop (I.ok.hd hc) D.d1.1 D.m1.1 hz h1 s1 p.isList (by simp;omega) fun h' hk=>⟨rfl,I.turnedL (t':=s.toks) (its:=[z,TI,TO,i1,i2,i3]) (fun b o hb e=>hk b o (fun q=>hb (by simp [q])) (fun q=>hb (by simp [q])) e) hf⟩
 self:=fun A i s Q E st h=>wpAny_pyIter_zip st.1 h
section
variable {X:Cx}
def iZt (K:PySem.W.Frag)(ta:TA):TI:=fun σ H R=>ta σ H fun vs H1=>∃ a b c,vs=[.ref a,.ref b,.ref c]∧(∃ xs,SqL K H1 a xs)∧(∃ ys,SqL K H1 b ys)∧(∃ zs,SqL K H1 c zs)∧R (Ity K a b c) H1
theorem pi_zt {elts:List Expr}{x1}{pos':Pos}{a b c:Expr}{ta:TA}{p pos:Pos}(hg:Gl X "zip")(hm:X.mg "zip"=none)(ha:PA X [a,b,c] ta)(hs:starEach [a,b,c] X.env=[(false,eval a X.env),(false,eval b X.env),(false,eval c X.env)]:=by rfl)(hs2:starEach [b,c] X.env=[(false,eval b X.env),(false,eval c X.env)]:=by rfl) :
  PI X (.Tuple elts x1 pos') (.Call (.Name "zip" p) [a,b,c] [] pos) (iZt X.K ta):=by
 intro pins s σ H R I h
 refine Call_ (jT I hg hm boot_zip (PyProof.Rows.callWith_type1 (thn (ha pos pins s σ H _ I h) fun us s1 ⟨vs,H1,I1,r1,q1⟩=>?_) (by rw[hs,hs2]) (by rw[hs2];rfl)))
 obtain⟨a,b,c,e,⟨xs,hq⟩,⟨ys,hq'⟩,⟨zs,hq2⟩,q⟩:=q1
 subst e
 cases r1 with
 | cons r rr =>
  cases rr with
  | cons r' rr =>
   cases rr with
   | cons r2 rr =>
    cases rr
    cases r
    cases r'
    cases r2
    obtain⟨its,rv,p,hz⟩:=I1.list hq
    obtain⟨its',rv',p',hz'⟩:=I1.list hq'
    obtain⟨its2,rv2,p2,hz2⟩:=I1.list hq2
    have la:a < s1.heap.objs.size:=by obtain⟨o,e1,_⟩:=p.isList;exact Heap.lt_size e1
    have lb:b < s1.heap.objs.size:=by obtain⟨o,e1,_⟩:=p'.isList;exact Heap.lt_size e1
    have lc:c < s1.heap.objs.size:=by obtain⟨o,e1,_⟩:=p2.isList;exact Heap.lt_size e1
    refine zt_call p.isList p'.isList p2.isList fun h' hz hTI hTO hi1 hi2 hi3 hk=>?_
    have I2:Inv X pins σ H1 { s1 with heap:=h' }:=I1.kept (t':=s1.toks) hk
    refine wpAny_pyIter_zip hz ?_
    refine⟨_,_,_,_,H1,rfl,I2,turn_zt a b c _ _ _ _ _ _ (ztAp_new la lb lc),⟨hz,hTI,⟨_,_,_,hTO⟩,hi1,hi2,hi3⟩,fun d hd=>?_,q⟩
    simp only [List.mem_cons,List.not_mem_nil,or_false] at hd
    rcases hd with rfl | rfl | rfl | rfl | rfl | rfl <;> exact I1.fpOk (by omega) (I1.hok.fresh (by omega))
end
theorem for_zt {K:PySem.W.Frag}{a b c:Addr}{xs ys zs:List V}{g:TG}{tb:TS}{D:Ends}{σ:St}{H:Hp}(hlen:xs.length=ys.length)(hlen2:xs.length=zs.length)(Pv:Nat→St→Hp→Prop)(h0:Pv 0 σ H)(hl:∀ i σ H,i≤xs.length→Pv i σ H→SqL K H a xs∧SqL K H b ys∧SqL K H c zs)
  (hs:∀ i x y v σ H p,xs[i]?=some x→ys[i]?=some y→zs[i]?=some v→Pv i σ H→H p=none→g (.ref p) σ (upd H p (.tup [x,y,v])) fun σ2 H2=>tb { D with nx:=Pv (i+1),ct:=Pv (i+1),bk:=D.nx } σ2 H2)(hd:∀ σ H,Pv xs.length σ H→D.nx σ H) :
  ∃ W:Nat→Nat→St→Hp→Prop,(∃ m,W 0 m σ H)∧∀ i m σ H,W i m σ H →
   ((Ity K a b c).stop i H∧D.nx σ H)∨((Ity K a b c).go i H∧∃ N:St→Hp→Prop,(∀ σ' H',N σ' H'→∃ m',m' < m∧W (i+1) m' σ' H')∧∀ x H',(Ity K a b c).yld i H x H'→g x σ H' fun σ2 H2=>tb { D with nx:=N,ct:=N,bk:=D.nx } σ2 H2):=by
 refine⟨fun i m σ H=>m=xs.length-i∧i≤xs.length∧Pv i σ H,⟨xs.length,by simp,Nat.zero_le _,h0⟩,?_⟩
 rintro i m σ H ⟨rfl,hi,p⟩
 obtain⟨q1,q2,q3⟩:=hl i σ H hi p
 by_cases hlt:i < xs.length
 ·refine .inr ⟨⟨xs,ys,zs,xs[i],ys[i]'(by omega),zs[i]'(by omega),q1,q2,q3,by simp [hlt],by simp [show i < ys.length by omega],by simp [show i < zs.length by omega]⟩,Pv (i+1),fun σ' H' p'=>⟨xs.length-(i+1),by omega,rfl,hlt,p'⟩,fun x H' y=>?_⟩
  obtain⟨r,y1,y2,y3,rfl,hr,hy1,hy2,hy3,rfl⟩:=y
  exact hs i y1 y2 y3 σ _ r (hy1 xs q1) (hy2 ys q2) (hy3 zs q3) p hr
 ·have e:i=xs.length:=by omega
  subst e
  exact .inl ⟨⟨xs,q1,Nat.le_refl _⟩,hd σ H p⟩
end L2
set_option Elab.async false
set_option linter.all false
set_option maxRecDepth 100000
set_option maxHeartbeats 5000000
namespace L2
open PySem PySem.Spec PyProof.Rows PySem.SeqAt
section
variable {X:Cx}{ev:Expr}{a b:Str}{i:Int}{ja jb}{pa pb pf pos:Pos}
end
theorem pss_none {X:Cx}{ss:List Stmt}:PSs X ss (fun _ _ _=>False):=fun _ _ _ _ _ _ h=>h.elim
end L2
set_option Elab.async false
set_option linter.all false
set_option maxRecDepth 100000
set_option maxHeartbeats 5000000
namespace L2
open PySem PySem.Spec PyProof.Rows PySem.SeqAt
theorem Paired.appP {α β:Type}{F:α→β→Prop}:∀ {a c:List α}{b d:List β},Paired F a b→Paired F c d→Paired F (a ++ c) (b ++ d)
 | _,_,_,_,.nil,h=>h
 | _,_,_,_,.cons h t,g=>.cons h (Paired.appP t g)
section
variable {X:Cx}
end
abbrev d3 (t:Int×Int×Int):PyData:=.tuple [.int t.1,.int t.2.1,.int t.2.2]
end L2
set_option Elab.async false
set_option linter.all false
set_option maxRecDepth 100000
set_option maxHeartbeats 5000000
namespace L2
open PySem PySem.Spec PyProof.Rows
theorem pick_vals {ns:List Int}{its:List Value}(r:Vals (ns.map V.int) its):∀ is:List Nat,Vals ((is.filterMap fun i=>ns[i]?).map V.int) (is.filterMap fun i=>its.toArray[i]?)
 | []=>.nil
 | i::is=>by
  have ih:=pick_vals r is
  rw[List.filterMap_cons,List.filterMap_cons]
  have e:its.toArray[i]?=its[i]?:=by simp
  cases h:ns[i]? with
  | none =>
   have hl:=r.length
   rw[List.length_map] at hl
   have:its[i]?=none:=List.getElem?_eq_none (by have:=List.getElem?_eq_none_iff.mp h;omega)
   rw[e,this]
   exact ih
  | some v =>
   obtain⟨u,hu,ru⟩:=r.get (i:=i) (x:=.int v) (by rw[List.getElem?_map,h];rfl)
   rw[e,hu]
   exact .cons ru ih
section
variable {X:Cx}{e:Expr}{te:TE}{lo:Option Expr}{tl:TO}{pos p2 p3:Pos}
end
end L2
set_option Elab.async false
set_option linter.all false
set_option maxRecDepth 100000
set_option maxHeartbeats 5000000
namespace L2
open PySem PySem.Spec PyProof.Rows
section
variable {X:Cx}{e hi:Expr}{te:TE}{lo:Option Expr}{tl tu:TO}{pos p2 p3:Pos}
end
end L2
set_option Elab.async false
set_option linter.all false
set_option maxRecDepth 100000
set_option maxHeartbeats 5000000
namespace L2
open PySem PySem.Spec PyProof.Rows
end L2
set_option Elab.async false
set_option linter.all false
set_option maxRecDepth 100000
set_option maxHeartbeats 5000000
namespace L2
open PySem PySem.Spec PyProof.Rows PySem.W
def CodeO (qual:Str)(a:Addr):HO:=.ext fun h=>h.CodeRec (.ref a) qual
theorem codeO_ok {P:Program}{w:World}{H:Hp}{h:Heap}{a:Addr}{qual:Str}(r:h.CodeRec (.ref a) qual):wH P w H h a (CodeO qual a):=by
 obtain⟨c,oc,vs,t,e,ho,hd,hv⟩:=id r
 cases e
 exact⟨r,⟨oc,ho⟩,fun h1 h2 ⟨c,oc,vs,t,e,ho,hd,hv⟩ k=>by cases e;exact⟨_,oc,vs,t,rfl,k _ ho,hd,hv⟩⟩
theorem codeO_get {P:Program}{w:World}{H:Hp}{h:Heap}{a:Addr}{qual:Str}(x:wH P w H h a (CodeO qual a)):h.CodeRec (.ref a) qual:=x.1
def LamT (P:Addr)(pos:Pos)(qual:Str)(H:Hp):Prop :=
 H P=some (.tbl #[])∨∃ c:Addr,H P=some (.tbl #[rawInt pos.line,rawInt pos.col,.ref c])∧H c=some (CodeO qual c)
def SmP (P:Addr)(H H':Hp):Prop:=∀ b o,b≠P→H b=some o→H' b=some o
theorem SmP.of {P:Addr}{H H':Hp}(h:zR H H'):SmP P H H':=fun b o _ e=>h b o e
theorem SmP.trans {P:Addr}{H H1 H2:Hp}(a:SmP P H H1)(b:SmP P H1 H2):SmP P H H2:=fun c o n e=>b c o n (a c o n e)
theorem LamT.same {P:Addr}{pos:Pos}{qual:Str}{H H':Hp}(l:LamT P pos qual H)(h:zR H H'):LamT P pos qual H':=by
 rcases l with l | ⟨c,l1,l2⟩
 ·exact .inl (h _ _ l)
 ·exact .inr ⟨c,h _ _ l1,h _ _ l2⟩
theorem LamT.ne {P a:Addr}{pos:Pos}{qual:Str}{H:Hp}{xs:List V}(l:LamT P pos qual H)(h:H a=some (.lst xs)):a≠P:=fun e=>by
 subst e
 rcases l with l | ⟨c,l,_⟩ <;> · rw[h] at l;cases l
structure LamB (mg:Str→Option Value)(base:Heap)(c P:Addr):Prop where
 code:CodeHd base c P
 blt:base.BuiltinsAt mg P
 ng:mainGlobals≠P
theorem ns_one {h:Heap}{a:Addr}{m m':Str→Option Value}(x:h.Ns a m)(y:h.Ns a m'):m=m':=by
 obtain⟨o,es,ep,e,d,_,r⟩:=x
 obtain⟨o',es',ep',e',d',_,r'⟩:=y
 rw[e] at e';cases e'
 rw[d] at d';cases d'
 funext n
 rw[← r,← r']
section
variable {X:Cx}{pins:List (Addr×Obj)}{σ:St}{H H':Hp}{s:Shared}{h':Heap}
theorem Inv.keptL {t':Nat}(I:Inv X pins σ H s)(k:∀ b o,b≠X.env.locals→s.heap.get? b=some o→h'.get? b=some o)(hn:∀ m,s.heap.Ns X.env.locals m→h'.Ns X.env.locals m) :
  Inv X pins σ H { s with heap:=h',toks:=t' }:=by
 have nL:∀ b u,H b=some u→b≠X.env.locals:=fun b u e z=>by rw[z,I.free] at e;cases e
 refine I.step (g':=s.gens) (d':=s.drawn) (ch:=[]) (fun _ z=>nomatch z) (fun b o hL _ _ e _=>k b o hL e) (fun b o hL _ _ e _=>⟨o.slots,k b o hL e⟩) (fun _ _ _ _ n=>n) (fun b o _ e=>?_) (fun _ _ e=>e) (fun _ _ _ e=>e)
  (fun b ps e=>⟨#[],by rw[e];simp⟩) hn (fun b u e=>?_) I.bare
 ·by_cases hb:b=X.env.locals
  ·obtain⟨m,hm,_⟩:=I.loc
   obtain⟨o',_,_,ho,_⟩:=hn m hm
   exact⟨o',by rw[hb];exact ho⟩
  ·exact⟨o,k b o hb e⟩
 ·refine (I.hok b u e).stay (fun c v hc q=>k c v ?_ q) (fun _ q=>q) fun _ _ q=>q
  rcases hc with z | z
  ·rw[z];exact nL b u e
  ·exact nL c _ z
end
section
variable {prog:Program}{w:World}{A:Around}{E:Value→Shared→Prop}{s:Shared}{q c' cc l:Addr}{qual pl ld:Str}{params:Arguments}{scope:Scope}{pm ctv:Value}{p1 p2 p3:Pos}{nm:Str}
theorem lam_run {its:List Value}{n g:Int}{t tg:Tok}(hroom:A.depth < recursionLimit)(hq:s.heap.get? q=some (kla_obj nm qual params (.Subscript (.Name ld p1) (.Name pl p2) p3) scope [(ld,cc)] pm c' ctv))(hcd:s.heap.CodeRec (.ref c') qual)(hlim:s.heap.NoLimit)
  (hcell:s.heap.IsCell cc (some (.ref l)))(hl:s.heap.IsList l its.toArray)(h0:0≤n)(hs:its.length < 2^62)(hv:its[n.toNat]?=some (.int g tg))
  (hb:∀ v,bindArgs (kla_fn nm qual params (.Subscript (.Name ld p1) (.Name pl p2) p3) scope [(ld,cc)] pm (.ref c') ctv) ⟨[v],[]⟩=pure [(pl,v)])
  (hco:scope.isCoroutine=false)(hgen:scope.isGenerator=false)(hk:scope.kind=.function)(hnames:scope.names=[(pl,.local),(ld,.free)])(hne:(pl == ld)=false)(hne2:(ld == pl)=false)
  (d1:(ld == ("__debug__":Str))=false)(d2:(pl == ("__debug__":Str))=false)(d3:(ld == ("__classdict__":Str))=false)(hplain:PlainIx (.Name pl p2)) :
  wpAny (model prog w) A (call (.ref q) [.int n t]) (fun v s'=>∃ h1 tk1 t1,s'={ s with heap:=h1,toks:=tk1 }∧v=.int g t1∧∀ b o,s.heap.get? b=some o→h1.get? b=some o) E s:=by
 have l1:scope.names.lookup pl=some .local:=by rw[hnames];simp [List.lookup]
 have l2:scope.names.lookup ld=some .free:=by rw[hnames];simp [List.lookup,hne2]
 have hnc:∀ x∈scope.names,x.2≠.cell:=fun x hx=>by
  rw[hnames] at hx
  rcases List.mem_cons.mp hx with e | hx
  ·rw[e];exact fun z=>nomatch z
  ·rw[List.mem_singleton.mp hx];exact fun z=>nomatch z
 refine wpAny_call (kla_callFunE hroom hq rfl hco hgen rfl hcd ?_)
 rw[hb]
 refine wpAny_pure (wpAny_newFunctionEnv hnc (fun x hx=>by rw[List.mem_singleton.mp hx];exact l1) (fun h₁ hns hsb=>?_) hk)
 have hk₁:∀ b o,s.heap.get? b=some o→h₁.get? b=some o:=fun b o e=>hsb.extBut b o (Nat.ne_of_lt (Heap.lt_size e)) (Heap.get?_push_of_some _ e)
 refine⟨hlim.keeps hk₁,kla_codeExpr ?_⟩
 obtain⟨oc,hoc,hdc⟩:=hcell
 obtain⟨ol,hol,hcl,hdl⟩:=hl
 refine Subscript_ (wpAny_Name (wpAny_loadName_free hk l2 (by simp [newEnv,List.lookup]) ⟨oc,hk₁ _ _ hoc,hdc⟩ ?_ d3) d1)
 refine wpAny_Name (wpAny_loadName_local (v:=.int n t) hk l1 hns (by simp [List.lookup]) ?_) d2
 have hlt:=(List.getElem?_eq_some_iff.mp hv).1
 exact item_listR (items:=its.toArray) (show Heap.IsList h₁ l its.toArray from ⟨ol,hk₁ _ _ hol,hcl,hdl⟩) h0 (by omega) (by simpa using hv) ⟨h₁,_,tg,rfl,rfl,hk₁⟩ (hplain _ _)
end
section
variable {X:Cx}{pins:List (Addr×Obj)}{σ:St}{H:Hp}{s:Shared}{q c' cc l a c P:Addr}{qual pl ld:Str}{params:Arguments}{scope:Scope}{pm ctv:Value}{p1 p2 p3 lpos kp p pos:Pos}{nm:Str}{e:Expr}{te:TE}
structure LamE (pl ld:Str)(params:Arguments)(body:Expr)(scope:Scope)(p2:Pos):Prop where
 bd:∀ (nm qual:Str)(cl:List (Str×Addr))(pm cd ctv v:Value),bindArgs (kla_fn nm qual params body scope cl pm cd ctv) ⟨[v],[]⟩=pure [(pl,v)]
 df:∀ env,defaultsOf params env=([],[])
 co:scope.isCoroutine=false
 gen:scope.isGenerator=false
 kind:scope.kind=.function
 names:scope.names=[(pl,.local),(ld,.free)]
 ne:(ld == pl)=false
 d1:(ld == ("__debug__":Str))=false
 d2:(pl == ("__debug__":Str))=false
 d3:(ld == ("__classdict__":Str))=false
 plain:PlainIx (.Name pl p2)
theorem min_lam {ns ws:List Int}{Q:Value→Shared→Prop}{E:Value→Shared→Prop}(L:LamE pl ld params (.Subscript (.Name ld p1) (.Name pl p2) p3) scope p2)(hc:X.calm=true)(hr:X.A.in1.depth < recursionLimit)(I:Inv X pins σ H s)
  (hq:s.heap.get? q=some (kla_obj nm qual params (.Subscript (.Name ld p1) (.Name pl p2) p3) scope [(ld,cc)] pm c' ctv))(hcd:s.heap.CodeRec (.ref c') qual)(hcell:s.heap.IsCell cc (some (.ref l)))
  (ha:SqL X.K H a (ns.map V.int))(hl:SqL X.K H l (ws.map V.int))(h0:0 < ns.length)(hin:∀ n∈ns,0≤n∧n < (ws.length:Int))(hqL:q≠X.env.locals)(hcL:c'≠X.env.locals)(hccL:cc≠X.env.locals)
  (hQ:∀ (M:Int)(t:Tok)(h':Heap)(tk:Nat),Inv X pins σ H { s with heap:=h',toks:=tk }→M∈ns→(∀ n∈ns,ws.getD M.toNat 0≤ws.getD n.toNat 0)→Q (.int M t) { s with heap:=h',toks:=tk }) :
  wpAny (model X.prog X.w) X.A (call (.builtin "min") [.ref a] [(Str.ofString "key",.ref q)]) Q E s:=by
 obtain⟨m,hm,_⟩:=id I.loc
 obtain⟨its,rv,pl',_⟩:=I.list ha
 obtain⟨jts,rj,pj,hzj⟩:=I.list hl
 have hLa:a≠X.env.locals:=fun z=>by
  obtain⟨o,es,ep,e,d,_⟩:=hm
  obtain⟨ol,hol,_,nn,hd⟩:=pl'.isList
  rw[z,e] at hol;cases hol
  rw[d] at hd;cases hd
 have hLl:l≠X.env.locals:=fun z=>by
  obtain⟨o,es,ep,e,d,_⟩:=hm
  obtain⟨ol,hol,_,nn,hd⟩:=pj.isList
  rw[z,e] at hol;cases hol
  rw[d] at hd;cases hd
 have news:News (Att.zEl s.heap) X.env.locals s.heap (Att.ledger s.heap X.env.locals X.env.locals):=fun ⟨b,o⟩ hp=>by
  obtain⟨n1,n2,e⟩:=Att.zCs.mp hp
  exact⟨e,n1,Att.zFo _ _⟩
 have kept:∀ {h:Heap}{own:List (Addr×Obj)},News (Att.zEl s.heap) X.env.locals h (Att.ledger s.heap X.env.locals X.env.locals ++ own)→∀ b o,b≠X.env.locals→s.heap.get? b=some o→h.get? b=some o :=
  fun N b o n e=>(N (b,o) (List.mem_append_left _ (Att.zCs.mpr ⟨n,n,e⟩))).1
 have kept0:∀ {h:Heap},News (Att.zEl s.heap) X.env.locals h (Att.ledger s.heap X.env.locals X.env.locals)→∀ b o,b≠X.env.locals→s.heap.get? b=some o→h.get? b=some o :=
  fun N b o n e=>(N (b,o) (Att.zCs.mpr ⟨n,n,e⟩)).1
 have iar:IntsAre its ns:=by
  have go:∀ {ns:List Int}{vs:List Value},Vals (ns.map V.int) vs→IntsAre vs ns:=by
   intro ns
   induction ns with
   | nil=>intro vs r;cases r;exact .nil
   | cons n ns ih=>intro vs r;cases r with | cons h t=>obtain⟨tk,rfl⟩:=h;exact .cons n tk (ih t)
  exact go rv
 refine kmk_min_letter (h₀:=Att.zEl s.heap) (L:=X.env.locals) (m:=m) (news:=Att.ledger s.heap X.env.locals X.env.locals) (vs:=its) (ns:=ns) (fun n=>ws.getD n.toNat 0) (I.ok.hd hc) (Att.fr_all hm) news (fun h F N=>?_) iar h0 ?_ ?_
 ·obtain⟨ol,hol,r⟩:=pl'.isList
  exact⟨ol,kept0 N _ _ hLa hol,r⟩
 ·intro n t h tk own hn F N
  obtain⟨n0,n1⟩:=hin n hn
  have hlt:n.toNat < ws.length:=by omega
  obtain⟨u,hu,tu,ru⟩:=rj.get (i:=n.toNat) (x:=.int (ws.getD n.toNat 0)) (by rw[List.getElem?_map,List.getElem?_eq_getElem hlt];simp [List.getD,hlt])
  subst ru
  obtain⟨oc,hoc,hdc⟩:=hcell
  obtain⟨ol,hol,rl⟩:=pj.isList
  obtain⟨c2,oc2,vs2,t2,e2,ho2,hd2,hv2⟩:=hcd
  cases e2
  have K:=kept N
  have hlim:Heap.NoLimit h:=I.ok.mod.nolimit.keeps fun b o e=>K b o (Nat.ne_of_lt (Nat.lt_of_lt_of_le (Heap.lt_size e) (Nat.le_trans I.ok.bsz I.ok.above))) (I.bk b o e)
  refine wpAny_mono (lam_run (s:={ s with heap:=h,toks:=tk }) (A:=X.A.in1) (n:=n) (g:=ws.getD n.toNat 0) (its:=jts) (tg:=tu) (E:=fun _ _=>False) hr (K _ _ hqL hq) ⟨_,oc2,vs2,t2,rfl,K _ _ hcL ho2,hd2,hv2⟩ hlim ⟨oc,K _ _ hccL hoc,hdc⟩ ⟨ol,K _ _ hLl hol,rl⟩ n0
   (by have:=rj.length;have:=line63;rw[sizeLine_eq] at hzj;rw[List.length_map] at *;omega) hu (fun v=>L.bd _ _ _ _ _ _ v) L.co L.gen L.kind L.names (by have:=L.ne;simp only [beq_eq_false_iff_ne,ne_eq] at this ⊢;exact fun z=>this z.symm) L.ne L.d1 L.d2 L.d3 L.plain) (fun v s' r=>?_) fun _ _ z=>z
  obtain⟨h1,tk1,t1,rfl,rfl,kk⟩:=r
  exact⟨h1,tk1,t1,rfl,rfl,⟨F.ns.keeps kk,fun b o e=>kk b o (F.keep b o e),F.above⟩,fun p hp=>⟨kk _ _ (N p hp).1,(N p hp).2⟩⟩
 ·intro M t h' tk' F N hM hmin
  refine hQ M t h' tk' (I.keptL (kept0 N) fun m' hm'=>?_) hM hmin
  rw[ns_one hm' hm];exact F.ns
theorem LamT.tab {P:Addr}{pos:Pos}{qual:Str}{H:Hp}(l:LamT P pos qual H):∃ ps,H P=some (.tbl ps):=by
 rcases l with l | ⟨_,l,_⟩
 ·exact⟨_,l⟩
 ·exact⟨_,l⟩
theorem SmP.seq {K:PySem.W.Frag}{P a:Addr}{H H':Hp}{xs:List V}(e:SmP P H H')(l:∃ ps,H P=some (.tbl ps))(h:SqL K H a xs):SqL K H' a xs:=by
 obtain⟨ps,l⟩:=l
 have ne:∀ o,H a=some o→o≠.tbl ps→a≠P:=fun o e1 n z=>by
  subst z
  rw[e1] at l;exact n (Option.some.inj l)
 rcases h with (h | ⟨o,h⟩) | h
 ·exact .inl (.inl (e _ _ (ne _ h (fun z=>nomatch z)) h))
 ·exact .inl (.inr ⟨o,e _ _ (ne _ h (fun z=>nomatch z)) h⟩)
 ·exact .inr h
def MinQ (K:PySem.W.Frag)(P:Addr)(lpos:Pos)(qual:Str)(j:Nat)(σ:St)(Q:VK)(x:V)(H1:Hp):Prop:=∃ (a l:Addr)(ns ws:List Int),x=.ref a∧SqL K H1 a (ns.map V.int)∧0 < ns.length∧σ[j]?=some (some (.ref l))∧SqL K H1 l (ws.map V.int) ∧
 (∀ n∈ns,0≤n∧n < (ws.length:Int))∧LamT P lpos qual H1∧∀ (M:Int)(H':Hp),M∈ns→(∀ n∈ns,ws.getD M.toNat 0≤ws.getD n.toNat 0)→SmP P H1 H'→LamT P lpos qual H'→Q (.int M) H'
def tMinL (K:PySem.W.Frag)(P:Addr)(lpos:Pos)(qual:Str)(j:Nat)(ta:TE):TE:=fun σ H Q=>ta σ H fun x H1=>MinQ K P lpos qual j σ Q x H1
theorem pe_minL {j:Nat}(L:LamE pl ld params (.Subscript (.Name ld p1) (.Name pl p2) p3) scope p2)(B:LamB X.mg X.base c P)(hcode:X.env.code=.ref c)(hc:X.calm=true)(hr:X.A.in1.depth < recursionLimit)(hg:Gl X "min")(hm:X.mg "min"=none)
  (hv:bootBuiltins "min"=some (.builtin "min"))(hN:X.N[j]?=some ld)(hk:X.env.scope.names.lookup ld=some .cell)(ha:PE X e te)(hs:starEach [e] X.env=(false,eval e X.env)::starEach [] X.env:=by rfl)
  (he:backTo pos (starEach [e] X.env)=(false,eval e X.env)::backTo pos (starEach [] X.env):=by rfl)(hplain:(backTo pos (starEach [e] X.env)).any (·.1)=false:=by rfl) :
  PE X (.Call (.Name "min" p) [e] [⟨some "key",.Lambda params (.Subscript (.Name ld p1) (.Name pl p2) p3) scope lpos,kp⟩] pos) (tMinL X.K P lpos (X.env.qual ++ "<lambda>") j te):=by
 intro pins s σ H Q I h
 refine wpAny_Call_Name_kw (jT I hg hm hv ?_)
 refine callWith_kw (thn (zA ha zH hs pos pins s σ H (fun vs H1=>match vs with | [x]=>MinQ X.K P lpos (X.env.qual ++ "<lambda>") j σ Q x H1 | _=>False) I h) fun us s1 ⟨vs,H1,I1,r,q⟩=>?_) he hplain rfl rfl
 obtain⟨x,rfl,q⟩:∃ x,vs=[x]∧MinQ X.K P lpos (X.env.qual ++ "<lambda>") j σ Q x H1:=by
  rcases vs with _ | ⟨x,_ | ⟨_,_⟩⟩
  ·exact q.elim
  ·exact⟨x,rfl,q⟩
  ·exact q.elim
 obtain⟨a,l,ns,ws,rfl,hsa,hz,hj,hsl,hin,lt,q⟩:=q
 obtain⟨u,rfl,ru⟩:=vals1 r
 cases ru
 refine kws_cons (kla_eval (L.df _) ?_)
 obtain⟨m,hn,hl⟩:=id I1.loc
 obtain⟨u,ru,lk⟩:=hl j ld (.ref l) hN hj (.inr (.inl hk))
 have hkc:X.env.kindOf ld=some .cell:=hk
 obtain⟨cc,hcc,hcell⟩:∃ cc,X.env.cells.lookup ld=some cc∧s1.heap.IsCell cc (some (.ref l)):=by
  cases ru
  rcases lk with ⟨z,_⟩ | ⟨_,cc,h1,h2⟩
  ·rw[hkc] at z;cases z
  ·exact⟨cc,h1,h2⟩
 have hcl:closureFor scope X.env=pure [(ld,cc)]:=by
  unfold closureFor
  rw[L.names]
  simp [cellOf,hcc]
 have hG:=I1.mod.glob.keeps I1.bk
 have hC:=B.code.keeps I1.bk
 have hB:s1.heap.BuiltinsAt X.mg P:=let ⟨bm,o,b1,b2,b3,b4,b5,b6⟩:=B.blt;⟨bm,o,b1,b2,b3,b4,I1.bk _ _ b5,b6⟩
 have hccL:cc≠X.env.locals:=I1.cne _ _ hcc
 have locl:=I1.lt
 rcases lt with lt | ⟨c',lt,ltc⟩
 ·have hP:s1.heap.get? P=some (tabObj #[]):=I1.hok P _ lt
  refine kla_makeFunction hcl I1.ok.glob hG hcode hC hP trivial rfl B.ng hB fun c' ctv h' tk hx hge hlt hrec htb=>?_
  have e3:(#[]:Array Value) ++ #[rawInt lpos.line,rawInt lpos.col,.ref c']=#[rawInt lpos.line,rawInt lpos.col,.ref c']:=by simp
  rw[e3] at htb
  have hc1:H1 c'=none:=I1.hok.fresh hge
  have cP:c'≠P:=fun z=>by rw[z,lt] at hc1;cases hc1
  have hx2:∀ b o,b≠P→s1.heap.get? b=some o→(h'.push (kla_obj "<lambda>" (X.env.qual ++ "<lambda>") params (.Subscript (.Name ld p1) (.Name pl p2) p3) scope [(ld,cc)] ((X.mg "__name__").getD .none) c' ctv)).get? b=some o:=fun b o hb e=>Heap.get?_push_of_some _ (hx b o hb e)
  have hnP:∀ b,H1 b=none→b≠P:=fun b e z=>by rw[z,lt] at e;cases e
  have old:∀ b o,s1.heap.get? b=some o→b≠c':=fun b o e z=>by rw[z] at e;exact absurd (Heap.lt_size e) (Nat.not_lt.mpr hge)
  have hbp:∀ b u,H1 b=some u→b≠c':=fun b u e z=>by rw[z,hc1] at e;cases e
  have smp:SmP P H1 (upd (upd H1 P (.tbl #[rawInt lpos.line,rawInt lpos.col,.ref c'])) c' (CodeO (X.env.qual ++ "<lambda>") c')):=fun b o n e=>by rw[zL (hbp b o e),zL n];exact e
  have rec2:(h'.push (kla_obj "<lambda>" (X.env.qual ++ "<lambda>") params (.Subscript (.Name ld p1) (.Name pl p2) p3) scope [(ld,cc)] ((X.mg "__name__").getD .none) c' ctv)).CodeRec (.ref c') (X.env.qual ++ "<lambda>") :=
   let ⟨c2,oc,vs,t,e,ho,hd,hv⟩:=hrec;⟨c2,oc,vs,t,e,Heap.get?_push_of_some _ ho,hd,hv⟩
  have I2:Inv X pins σ (upd (upd H1 P (.tbl #[rawInt lpos.line,rawInt lpos.col,.ref c'])) c' (CodeO (X.env.qual ++ "<lambda>") c')) { s1 with heap:=h'.push (kla_obj "<lambda>" (X.env.qual ++ "<lambda>") params (.Subscript (.Name ld p1) (.Name pl p2) p3) scope [(ld,cc)] ((X.mg "__name__").getD .none) c' ctv),toks:=tk }:=by
   refine I1.un (t':=tk) ⟨fun b o e n _ _=>hx2 b o (hnP b n) e,fun b o e n _ _=>⟨o.slots,hx2 b o (hnP b n) e⟩,fun b o e n _=>?_,fun b o e _=>?_,fun b xs e=>?_,fun b o u e=>?_,fun b ps e=>?_⟩ fun b u e=>?_
   ·rw[zL (old b o e),zL (hnP b n)];exact n
   ·by_cases hb:b=P
    ·exact⟨_,by rw[hb];exact Heap.get?_push_of_some _ htb⟩
    ·exact⟨o,hx2 b o hb e⟩
   ·exact smp b _ (fun z=>by rw[z,lt] at e;cases e) e
   ·exact smp b _ (fun z=>by rw[z,lt] at e;cases e) e
   ·by_cases hb:b=P
    ·subst hb
     rw[lt] at e;cases e
     exact⟨_,by rw[zL cP.symm,zD,e3]⟩
    ·exact⟨#[],by rw[smp b _ hb e];simp⟩
   ·by_cases h1:b=c'
    ·subst h1
     rw[zD] at e;cases e
     exact codeO_ok rec2
    ·rw[zL h1] at e
     by_cases h2:b=P
     ·subst h2
      rw[zD] at e;cases e
      exact Heap.get?_push_of_some _ htb
     ·rw[zL h2] at e
      refine (I1.hok b u e).stay (fun d v hd q=>hx2 d v ?_ q) (fun d q=>?_) fun d xs q=>?_
      ·rcases hd with z | z
       ·rw[z];exact h2
       ·exact fun w'=>by rw[w',lt] at z;cases z
      ·exact smp d _ (fun z=>by rw[z,lt] at q;cases q) q
      ·exact smp d _ (fun z=>by rw[z,lt] at q;cases q) q
  refine kws_nil ?_
  obtain⟨oc,hoc,hdc⟩:=hcell
  have ccP:cc≠P:=fun z=>by
   rw[z,hP] at hoc;cases hoc;cases hdc
  refine min_lam (q:=h'.objs.size) (cc:=cc) L hc hr I2 (Heap.get?_push_size _ rfl) rec2 ⟨oc,hx2 _ _ ccP hoc,hdc⟩ (smp.seq ⟨_,lt⟩ hsa) (smp.seq ⟨_,lt⟩ hsl) hz hin (Nat.ne_of_gt (Nat.lt_of_lt_of_le locl (Nat.le_trans hge (Nat.le_of_lt hlt)))) (Nat.ne_of_gt (Nat.lt_of_lt_of_le locl hge)) hccL fun M t h2 tk2 I3 hM hmin=>?_
  exact⟨.int M,_,I3,⟨t,rfl⟩,q M _ hM hmin smp (.inr ⟨c',by rw[zL cP.symm,zD],zD⟩)⟩
 ·have hP:s1.heap.get? P=some (tabObj #[rawInt lpos.line,rawInt lpos.col,.ref c']):=I1.hok P _ lt
  refine kla_makeFunctionHit (cv:=.ref c') hcl I1.ok.glob hG hcode hC hP trivial (by simp [codeAmong,rawInt]) hB fun ctv h' tk hkk hsz=>?_
  have rec1:=codeO_get (I1.hok c' _ ltc)
  have I2:Inv X pins σ H1 { s1 with heap:=h'.push (kla_obj "<lambda>" (X.env.qual ++ "<lambda>") params (.Subscript (.Name ld p1) (.Name pl p2) p3) scope [(ld,cc)] ((X.mg "__name__").getD .none) c' ctv),toks:=tk }:=I1.kept fun b u e=>Heap.get?_push_of_some _ (hkk b u e)
  refine kws_nil ?_
  obtain⟨oc,hoc,hdc⟩:=hcell
  obtain⟨c2,oc2,vs2,t2,e2,ho2,hd2,hv2⟩:=rec1
  cases e2
  have cL:c'≠X.env.locals:=fun z=>by rw[z,I1.free] at ltc;cases ltc
  refine min_lam (q:=h'.objs.size) (c':=c') (cc:=cc) L hc hr I2 (Heap.get?_push_size _ rfl) ⟨_,oc2,vs2,t2,rfl,Heap.get?_push_of_some _ (hkk _ _ ho2),hd2,hv2⟩ ⟨oc,Heap.get?_push_of_some _ (hkk _ _ hoc),hdc⟩ hsa hsl hz hin (Nat.ne_of_gt (Nat.lt_of_lt_of_le locl hsz)) cL hccL fun M t h2 tk2 I3 hM hmin=>?_
  exact⟨.int M,_,I3,⟨t,rfl⟩,q M _ hM hmin (fun _ _ _ e=>e) (.inr ⟨c',lt,ltc⟩)⟩
end
end L2
set_option Elab.async false
set_option linter.all false
set_option maxRecDepth 100000
set_option maxHeartbeats 5000000
namespace L2
open PySem PySem.Spec PyProof.Rows PySem.W
theorem Dn.okC {P:Program}{w:World}{K:PySem.W.Frag}{mg:Str→Option Value}{base:Heap}{x:Str}{st:Stmt}{N ps:List Str}{k:Nat}{sp:Sp}{c T:Addr}(D:Dn K mg x st ps)(kb:K.In base)(nb:base.Ns mainGlobals mg)(ht:tabIn K x=some (c,T))
  (S:zV N ps (zB st))(len:∀ vs H Q E,sp vs H Q E→vs.length=ps.length)
  (hbody:∀ (f:Addr)(A:Around)(outer:List Env)(s:Shared)(H:Hp)(vs:List V)(Q:VK)(E:XK),zDm k (A.deeper (envOfC x (zB st) s.heap.objs.size f (.ref c)))→sp vs H Q E →
   ∃ t,PSs (cxOf CX0 P w K mg base N x (zB st) f (.ref c) A outer s H E).nox (zE st) t∧t { nx:=fun _ H'=>Q .non H',rt:=Q } (start N vs) H):Df P w K mg base (k+1) x ps sp:=by
 obtain⟨f,fd,F,b,m⟩:=D.ex
 refine⟨f,fd,?_,b,F.kp,m⟩
 obtain⟨oc,od,kV,doc,pm,an,cdv,ct,osl,rfl,lk,hcd⟩:=F.ex
 have e:cdv=.ref c:=law_code kb nb ht m (kb _ _ lk) rfl
 subst e
 refine fn_of lk hcd S len fun A outer s H vs Q E hr hsp=>?_
 obtain⟨t,h,q⟩:=hbody f A outer s H vs Q E hr hsp
 exact⟨t,h.nox,q⟩
theorem law_callT {P:Program}{w:World}{K:PySem.W.Frag}{mg mb:Str→Option Value}{k:Nat}{fa a c T:Addr}{fd:FuncData}{x:Str}{sp:Sp}{s₁:Shared}{vs:List Value}{ns:List Int}
  (KX:K.In s₁.heap)(hns:s₁.heap.Ns mainGlobals mg)(hb:s₁.heap.Ns builtinsNs mb)(hbb:∀ x:Str,x≠"__name__"→mb x=bootBuiltins x)(hlim:s₁.heap.NoLimit)(hg:s₁.gens=#[])
  (ha:s₁.heap.get? a=some { cls:=.type "list",data:=.seq vs.toArray })(hi:IntsAre vs ns)(hl:ns.length≤sizeLine)(hr:zDm k callerA)
  (hT:s₁.heap.get? T=some (tabObj #[]))(hC:CodeHd s₁.heap c T)(hB:s₁.heap.BuiltinsAt mg T)(hTK:K.lookup T=none)
  (F:∀ base:Heap,K.In base→base.Ns mainGlobals mg→LamB mg base c T→FnOk P w K mg base CX0 k fa fd [x] sp)(hbind:∀ (s:Shared)(u:Value),BindsTo s fd ⟨[u],[]⟩ [(x,u)])
  (hsp:∀ H:Hp,SqL K H a (ns.map V.int)→H T=some (.tbl #[])→sp [.ref a] H (fun v _=>v=.bl true) fun _ _ _=>False) :
  codeAny (model P w) callerA (.call (.ref fa) ⟨[.ref a],[]⟩) (fun r s'=>r=.ok (.ret (.bool true))∧OldK s₁.heap s'.heap∧s'.os=s₁.os∧AllBare s'.gens) s₁:=by
 have rv:=vals_ints hi
 have lenV:=hi.length
 have aT:a≠T:=fun z=>by rw[z,hT] at ha;cases ha
 have core:∀ H:Hp,H T=some (.tbl #[])→SqL K H a (ns.map V.int)→HOk P w H s₁.heap→(∀ b,H b≠none→b=a∨b=T)→(H a≠none→K.lookup a=none)→(H a=none∨∃ o u,H a=some (.frz o u)) →
   codeAny (model P w) callerA (.call (.ref fa) ⟨[.ref a],[]⟩) (fun r s'=>r=.ok (.ret (.bool true))∧OldK s₁.heap s'.heap∧s'.os=s₁.os∧AllBare s'.gens) s₁:=by
  intro H tT hS hok hA hK hF
  have up:∀ {b:Addr}{o:Obj},s₁.heap.get? b=some o→H b=none→(hidT s₁.heap H).get? b=some o:=fun e n=>hidT_get e n
  have off:∀ {b:Addr}{o:Obj},s₁.heap.get? b=some o→(∀ v n,o.data≠.seq v n)→(∀ v,o.data≠.fields v)→H b=none:=fun {b o} e d1 d2=>by
   cases q:H b with
   | none=>rfl
   | some u =>
    rcases hA b (by rw[q];simp) with z | z
    ·subst z;rw[ha] at e;cases e;exact absurd rfl (d1 _ _)
    ·subst z;rw[hT] at e;cases e;exact absurd rfl (d2 _)
  have nsK:∀ {b:Addr}{m:Str→Option Value},s₁.heap.Ns b m→(hidT s₁.heap H).Ns b m:=fun {b m} ⟨o,es,ep,e,d,r⟩=>⟨o,es,ep,up e (off e (fun _ _ z=>by rw[d] at z;cases z) fun _ z=>by rw[d] at z;cases z),d,r⟩
  have hKb:K.In (hidT s₁.heap H):=fun b o e=>up (KX b o e) (by
   cases q:H b with
   | none=>rfl
   | some u =>
    rcases hA b (by rw[q];simp) with z | z
    ·subst z;rw[hK (by rw[q];simp)] at e;cases e
    ·subst z;rw[hTK] at e;cases e)
  have hM:Mod K mg (hidT s₁.heap H):=⟨hKb,nsK hns,⟨mb,nsK hb,hbb⟩,let ⟨mc,h1,h2⟩:=hlim;⟨mc,nsK h1,h2⟩⟩
  have e0:Env0 P w K mg (hidT s₁.heap H) callerA [] s₁ H:=⟨rfl,hM,fun b o e=>of_hidT e,Nat.le_of_eq (hidT_size _ _),trivial,fun b hb=>absurd (show b∈([]:List Addr) from hb) (by simp),hok,.of_eq hg⟩
  have hLB:LamB mg (hidT s₁.heap H) c T:=by
   refine⟨?_,?_,?_⟩
   ·obtain⟨o,vs,file,tf,flags,tg,inF,text,tt,e1,e2,e3⟩:=hC
    refine⟨o,vs,file,tf,flags,tg,inF,text,tt,up e1 ?_,e2,e3⟩
    cases q:H c with
    | none=>rfl
    | some u =>
     rcases hA c (by rw[q];simp) with z | z
     ·subst z;rw[ha] at e1;cases e1;injection e2 with e2;exact absurd e2 (by decide)
     ·subst z;rw[hT] at e1;cases e1;cases e2
   ·obtain⟨bm,o,b1,b2,b3,b4,b5,b6,b7,b8⟩:=hB
    exact⟨bm,o,b1,b2,b3,b4,up b5 (off b5 (fun _ _ z=>by rw[b8] at z;cases z) fun _ z=>by rw[b8] at z;cases z),b6,b7,b8⟩
   ·intro z
    obtain⟨o,es,ep,e,d,_⟩:=hns
    rw[z,hT] at e;cases e;cases d
  refine codeAny_mono ((F _ hKb (nsK hns) hLB).run callerA [] s₁ H ⟨[.ref a],[]⟩ [.ref a] [.ref a] _ _ hr e0 (hbind s₁ (.ref a)) (.cons rfl .nil) (hsp H hS tT)) fun r s' h=>?_
  cases r with
  | error e=>exact False.elim h
  | ok fl =>
   cases fl with
   | next=>exact False.elim h
   | brk=>exact False.elim h
   | cont=>exact False.elim h
   | ret u =>
    obtain⟨v,H',os,bare,un,hok',r',q⟩:=h
    have q':v=.bl true:=q
    subst q'
    obtain rfl:u=Value.bool true:=r'
    have fs0:∀ b:Addr,b∉frs ([]:List Env):=fun b z=>absurd (show b∈([]:List Addr) from z) (by simp)
    refine⟨rfl,⟨fun b o e=>?_,fun b o e=>un.there b o e (by simp)⟩,os,bare⟩
    cases q:H b with
    | none=>exact .inl (un.keep b o e q (fs0 b) (by simp))
    | some u =>
     rcases hA b (by rw[q];simp) with z | z
     ·subst z
      rcases hF with z | ⟨ob,u',z⟩
      ·rw[q] at z;cases z
      ·have z2:=un.frzs b ob _ z
       obtain⟨e1,_⟩:=hok b _ z
       obtain⟨e2,_⟩:=hok' b _ z2
       rw[e] at e1;cases e1
       exact .inl e2
     ·subst z
      obtain⟨more,z2⟩:=un.tbls b _ tT
      have e2:s'.heap.get? b=some { cls:=.none,data:=.fields (#[] ++ more) }:=hok' b _ z2
      rw[hT] at e;cases e
      exact .inr (.inl ⟨(hC.tab hT).isCodeTable,rfl,#[],more,rfl,e2⟩)
 cases hk:K.lookup a with
 | some o =>
  have e:=KX a o hk
  rw[ha] at e
  cases e
  refine core (fun b=>if b=T then some (.tbl #[]) else none) (if_pos rfl) (.inr ⟨_,vs.toArray,_,hk,rfl,rfl,rfl,by rw[List.size_toArray,lenV];exact hl,by simpa using rv⟩) (fun b u z=>?_) (fun b z=>?_) (fun z=>absurd (if_neg aT) z) (.inl (if_neg aT))
  ·by_cases hb:b=T
   ·have z':=(if_pos hb).symm.trans z
    cases z'
    subst hb
    exact hT
   ·have z':=(if_neg hb).symm.trans z
    cases z'
  ·by_cases hb:b=T
   ·exact .inr hb
   ·exact absurd (if_neg hb) z
 | none =>
  refine core (fun b=>if b=T then some (.tbl #[]) else if b=a then some (.frz { cls:=.type "list",data:=.seq vs.toArray } (.lst (ns.map V.int))) else none) (if_pos rfl) (.inl (.inr ⟨{ cls:=.type "list",data:=.seq vs.toArray },(if_neg aT).trans (if_pos rfl)⟩)) (fun b u z=>?_) (fun b z=>?_) (fun _=>hk) (.inr ⟨_,_,(if_neg aT).trans (if_pos rfl)⟩)
  ·by_cases hb:b=T
   ·have z':=(if_pos hb).symm.trans z
    cases z'
    subst hb
    exact hT
   ·have z':=(if_neg hb).symm.trans z
    by_cases hb:b=a
    ·have z':=(if_pos hb).symm.trans z'
     cases z'
     subst hb
     exact⟨ha,by rw[List.length_map];exact hl,vs,_,rv,ha⟩
    ·have z':=(if_neg hb).symm.trans z'
     cases z'
  ·by_cases hb:b=T
   ·exact .inr hb
   ·by_cases hb2:b=a
    ·exact .inl hb2
    ·exact absurd ((if_neg hb).trans (if_neg hb2)) z
theorem walk_ofT {l:PySem.W.OpenLaw}{n k:Nat}{q:Program}{loose:List Str}{XP:(Str→Option Value)→Heap→Prop}{YP:World→Heap→Prop}{d:DefRec}{K:Params→PySem.W.Frag}{sp:World→Addr→Sp}{x y:Str}{dy:DefRec}
  (hn:l.most=some n)(hn2:n≤sizeLine)(hdf:d.params.defaults=[])(hr:zDm k callerA)
  (hY:∀ (w:World)(h:Heap),YP w h→(K w.params).In h)(hrec:(recsOf q).find? (fun e=>e.name == y)=some dy)
  (F:∀ (w:World)(mg:Str→Option Value)(fa:Addr)(h:Heap),(K w.params).In h→h.Ns mainGlobals mg→mg d.name=some (.ref fa) →
   ∃ (fd:FuncData)(c T:Addr),tabIn (K w.params) y=some (c,T)∧(K w.params).lookup T=none∧(∀ (s:Shared)(u:Value),BindsTo s fd ⟨[u],[]⟩ [(x,u)]) ∧
    ∀ base:Heap,(K w.params).In base→base.Ns mainGlobals mg→LamB mg base c T→FnOk l.prog w (K w.params) mg base CX0 k fa fd [x] (sp w T))
  (hsp:∀ (w:World)(T:Addr)(H:Hp)(a:Addr)(ns:List Int),ns.length≤n→SqL (K w.params) H a (ns.map V.int)→H T=some (.tbl #[])→sp w T [.ref a] H (fun v _=>v=.bl true) fun _ _ _=>False) :
  PySem.W.WalkO q loose XP YP l.row.toRowW d [] (fun f vs=>PySem.call f vs):=by
 refine Att.attach_call hn hdf fun w s₀ s₁ mg mb fa o pm cd doc a vs ns G Y ho hd hcd hmg hobj hints hlen hg=>?_
 have KX:=hY w _ Y
 obtain⟨fd,c,T,htab,hTK,hb,hF⟩:=F w mg fa _ KX G.T.g hmg
 obtain⟨hC,hT⟩:=tab_of G.T KX hrec htab
 refine law_callT KX G.T.g G.T.b G.T.builtins G.T.nolimit hg hobj hints (Nat.le_trans hlen hn2) hr hT hC ?_ hTK hF hb fun H hS hTb=>hsp w T H a ns hlen hS hTb
 obtain⟨bm,ob,b1,b2,b3,b4,b5,b6⟩:=G.T.bmain
 refine⟨bm,ob,b1,b2,fun z=>?_,fun z=>?_,b3,b4,b5,b6⟩
 ·obtain⟨o,es,ep,e,hd,_⟩:=G.T.g
  rw[z,e] at b3;cases b3;rw[hd] at b6;cases b6
 ·rw[z,hT] at b3;cases b3;cases b4
end L2
set_option Elab.async false
set_option linter.all false
set_option maxRecDepth 100000
set_option maxHeartbeats 5000000
namespace L2
open PySem PySem.Spec PyProof.Rows PySem.W
structure Lb (K:PySem.W.Frag)(mg:Str→Option Value)(base:Heap)(x:Str)(cc tT:Addr):Prop where
 kb:K.In base
 nb:base.Ns mainGlobals mg
 tb:tabIn K x=some (cc,tT)
 lb:LamB mg base cc tT
theorem SmP.free {T:Addr}{H H':Hp}(e:SmP T H H')(t:∃ ps,H' T=some (.tbl ps)){l:Addr}(h:H' l=none):H l=none:=by
 cases q:H l with
 | none=>rfl
 | some o =>
  have ne:l≠T:=fun z=>by obtain⟨ps,t⟩:=t;rw[← z,h] at t;cases t
  rw[e l o ne q] at h;cases h
theorem SmP.lst {T:Addr}{H H':Hp}{r:Addr}{xs:List V}(e:SmP T H H')(t:∃ ps,H T=some (.tbl ps))(h:H r=some (.lst xs)):H' r=some (.lst xs):=by
 obtain⟨ps,t⟩:=t
 exact e _ _ (fun z=>by rw[z,t] at h;cases h) h
theorem SmP.same {T:Addr}{H H1 H2:Hp}(a:SmP T H H1)(b:zR H1 H2):SmP T H H2:=a.trans (.of b)
theorem SmP.upd {T:Addr}{H H':Hp}{r:Addr}{o:HO}(e:SmP T H H')(h:H r=none):SmP T H (upd H' r o):=fun b u n q=>by rw[zL (zJ q h)];exact e b u n q
theorem LamT.upd {T r:Addr}{pos:Pos}{qual:Str}{H:Hp}{xs ys:List V}(l:LamT T pos qual H)(h:H r=some (.lst xs)):LamT T pos qual (upd H r (.lst ys)):=by
 rcases l with l | ⟨c,l1,l2⟩
 ·exact .inl (by rw[zL (fun z=>by rw[← z,l] at h;cases h)];exact l)
 ·refine .inr ⟨c,by rw[zL (fun z=>by rw[← z,l1] at h;cases h)];exact l1,?_⟩
  rw[zL (fun z=>by rw[← z,l2] at h;cases h)];exact l2
end L2
namespace L2
open PySem PySem.Spec PyProof.Rows PySem.W
theorem tabIn_of {K:PySem.W.Frag}{x:Str}{f c T:Addr}{oc o1:Value}{od o2:Option Addr}{fd:FuncData}{sl o3:Array (Option Value)}{vs:Array Value}(a:nsIn K mainGlobals x=some (some (.ref f)))(l:K.lookup f=some ⟨oc,od,.func fd,sl⟩)(e:fd.code=.ref c)
  (lc:K.lookup c=some ⟨o1,o2,.fields vs,o3⟩)(v:vs[11]?=some (.ref T)):tabIn K x=some (c,T):=by
 unfold tabIn
 rw[a]
 simp only [l,e,lc,v]
end L2
set_option Elab.async false
set_option linter.all false
set_option maxRecDepth 100000
set_option maxHeartbeats 5000000
namespace L2
open PySem PySem.Spec PyProof.Rows
theorem step_rng {lo n p s:Nat}(hs:0 < s)(hp:0 < p)(en:n=p*s)(hlo:lo < s):sliceRange (sliceBounds (some (lo:Int)) none (some (s:Int)) n).1 (sliceBounds (some (lo:Int)) none (some (s:Int)) n).2.1 (sliceBounds (some (lo:Int)) none (some (s:Int)) n).2.2=(List.range p).map fun t=>lo+t*s:=by
 have h0:(sliceBounds (some (lo:Int)) none (some (s:Int)) n).1=lo:=by
  have:s≤n:=by rw[en];exact Nat.le_mul_of_pos_left s hp
  unfold sliceBounds
  simp only [Option.getD_some,show (s:Int) > 0 by omega,if_true]
  omega
 have h1:(sliceBounds (some (lo:Int)) none (some (s:Int)) n).2.1=n:=by unfold sliceBounds;simp only [Option.getD_some,show (s:Int) > 0 by omega,if_true]
 have h2:(sliceBounds (some (lo:Int)) none (some (s:Int)) n).2.2=s:=rfl
 rw[h0,h1,h2]
 unfold sliceRange
 simp only [show (s:Int) > 0 by omega,if_true]
 have sn:s≤n:=by rw[en];exact Nat.le_mul_of_pos_left s hp
 have ei:(n:Int)=p*s:=by rw[en,Int.natCast_mul]
 have lt:(lo:Int) < n:=by omega
 have cnt:((n:Int)-lo+s-1)/s=p:=by
  rw[show (n:Int)-lo+s-1=(s-1-lo)+s*p by rw[ei,Int.mul_comm];omega,Int.add_mul_ediv_left _ _ (by omega),Int.ediv_eq_zero_of_lt (by omega) (by omega)];omega
 rw[if_pos lt,cnt,Int.toNat_natCast]
 refine List.map_congr_left fun k _=>?_
 rw[Int.mul_comm,← Int.natCast_mul,← Int.natCast_add,Int.toNat_natCast]
theorem pick_at {ns:List Int}{n p s lo:Nat}(hn:ns.length=n)(en:n=p*s)(hlo:lo < s):(((List.range p).map fun t=>lo+t*s).filterMap fun i=>ns[i]?)=(List.range p).map fun (t:Nat)=>Ld.at' ns ((lo:Int)+(t:Int)*s):=by
 rw[List.filterMap_map]
 have key:∀ k:Nat,k≤p→((List.range k).filterMap ((fun i=>ns[i]?)∘fun t=>lo+t*s))=(List.range k).map fun (t:Nat)=>Ld.at' ns ((lo:Int)+(t:Int)*s):=by
  intro k
  induction k with
  | zero=>intro _;rfl
  | succ k ih =>
   intro hk
   rw[List.range_succ,List.filterMap_append,ih (by omega),List.map_append]
   congr 1
   have b:lo+k*s < ns.length:=by
    rw[hn,en]
    have:(k+1)*s≤p*s:=Nat.mul_le_mul_right _ hk
    rw[Nat.succ_mul] at this
    omega
   have e:ns[lo+k*s]?=some (Ld.at' ns ((lo+k*s:Nat):Int)):=Ld.get_at b
   rw[Int.natCast_add,Int.natCast_mul] at e
   show List.filterMap ((fun i=>ns[i]?)∘fun t=>lo+t*s) [k]=_
   simp [e]
 exact key p (Nat.le_refl _)
section
variable {X:Cx}{e:Expr}{te:TE}{lo:Option Expr}{es:Expr}{tl ts:TO}{pos p2 p3:Pos}
end
end L2
set_option Elab.async false
set_option linter.all false
set_option maxRecDepth 100000
set_option maxHeartbeats 5000000
namespace L2
open PySem PySem.Spec PyProof.Rows PySem.SeqAt
theorem ix_tupK {X:Cx}{K:PySem.W.Frag}(h:X.K=K):IxR X (rIxT K):=by subst h;exact vC
abbrev kS (s:Str):Key:=.inr s
theorem DPut.s {H:Hp}{a:Addr}{kvs:List (Key×V)}{i:Str}{v:V}(e:H a=some (.dK kvs))(hl:kvs.length < sizeLine):DPut H a (.str i) v (upd H a (.dK (putK kvs (kS i) v))):=DPut.k (k:=kS i) e hl
end L2
namespace Pt
def NoDiv (m b:Int):Prop:=∀ d,2≤d→d < b→¬ d∣m
def Prm (p:Int):Prop:=2≤p∧∀ d,2≤d→d < p→¬ d∣p
def IsPow (p q:Int):Prop:=∃ e:Nat,q=p^(e+1)
def Prd:List (Int×Int)→Int
 | []=>1
 | a::r=>a.2*Prd r
theorem pow1 (a:Int):a^(0+1)=a:=by rw[Int.pow_succ,Int.pow_zero,Int.one_mul]
theorem zBb:∀ (a b:List (Int×Int)),Prd (a ++ b)=Prd a*Prd b
 | [],b=>by simp [Prd]
 | x::r,b=>by simp [Prd,zBb r b,Int.mul_assoc]
structure Row (x:Int×Int):Prop where
 pr:Prm x.1
 pw:IsPow x.1 x.2
structure PInv (n:Int)(ps:List (Int×Int))(left p:Int):Prop where
 prd:Prd ps*left=n
 nod:NoDiv left p
 row:∀ x∈ps,Row x
 low:∀ x∈ps,x.1 < p
 srt:ps.Pairwise fun a b=>a.1 < b.1
structure Parts (n:Int)(ps:List (Int×Int)):Prop where
 prd:Prd ps=n
 row:∀ x∈ps,Row x
 srt:ps.Pairwise fun a b=>a.1 < b.1
theorem start (n:Int):PInv n [] n 2 :=
 ⟨by simp [Prd],fun d h1 h2=>by omega,fun x h=>(nomatch h),fun x h=>(nomatch h),List.Pairwise.nil⟩
structure QInv (m p q:Int):Prop where
 pos:1≤q
 pw:∃ e:Nat,q=p^e
 dv:q∣m
theorem q0 (m p:Int):QInv m p 1:=⟨by omega,⟨0,by simp⟩,Int.one_dvd m⟩
theorem q1 {m p q:Int}(hp:2≤p)(h:QInv m p q)(d:m%(q*p)=0):QInv m p (q*p):=by
 obtain⟨h1,⟨e,he⟩,h3⟩:=h
 have:=Int.mul_le_mul_of_nonneg_left hp (show 0≤q by omega)
 exact⟨by omega,⟨e+1,by rw[he,Int.pow_succ]⟩,Int.dvd_of_emod_eq_zero d⟩
theorem q_le {m p q:Int}(hm:1≤m)(h:QInv m p q):q≤m:=Int.le_of_dvd (by omega) h.dv
theorem q_grow {p q:Int}(hp:2≤p)(h:1≤q):q < q*p:=by
 have:=Int.mul_le_mul_of_nonneg_left hp (show 0≤q by omega)
 omega
structure QEnd (m p q:Int):Prop where
 inv:QInv m p q
 no:¬ q*p∣m
theorem q2 {m p q:Int}(h:QInv m p q)(d:¬ m%(q*p)=0):QEnd m p q:=⟨h,fun z=>d (Int.emod_eq_zero_of_dvd z)⟩
theorem turnB {n:Int}{ps:List (Int×Int)}{left p q:Int}(h:PInv n ps left p)(hq:QEnd left p q)(h1:¬ q > 1):PInv n ps left (p+1):=by
 have e:q=1:=by have:=hq.inv.pos;omega
 have no:¬ p∣left:=by have:=hq.no;rw[e,Int.one_mul] at this;exact this
 refine⟨h.prd,fun d h2 h3=>?_,h.row,fun x hx=>by have:=h.low x hx;omega,h.srt⟩
 by_cases c:d=p
 ·rw[c];exact no
 ·exact h.nod d h2 (by omega)
theorem turnA {n:Int}{ps:List (Int×Int)}{left p q:Int}(hp:2≤p)(h:PInv n ps left p)(hq:QEnd left p q)(h1:q > 1):PInv n (ps ++ [(p,q)]) (left/q) (p+1):=by
 obtain⟨⟨q1,⟨e,he⟩,⟨c,hc⟩⟩,no⟩:=hq
 have ec:left/q=c:=by rw[hc];exact Int.mul_ediv_cancel_left c (by omega)
 cases e with
 | zero=>rw[he] at h1;simp at h1
 | succ e =>
  have pq:p∣q:=by rw[he,Int.pow_succ];exact Int.dvd_mul_left _ _
  have pl:p∣left:=Int.dvd_trans pq ⟨c,hc⟩
  have cl:c∣left:=⟨q,by rw[hc,Int.mul_comm]⟩
  have prm:Prm p:=⟨hp,fun d h2 h3 z=>h.nod d h2 h3 (Int.dvd_trans z pl)⟩
  refine⟨?_,?_,?_,?_,?_⟩
  ·rw[zBb,ec];simp only [Prd,Int.mul_one]
   rw[Int.mul_assoc,← hc];exact h.prd
  ·rw[ec]
   intro d h2 h3 z
   by_cases k:d=p
   ·apply no
    obtain⟨f,hf⟩:=z
    exact⟨f,by rw[hc,hf,k,Int.mul_assoc]⟩
   ·exact h.nod d h2 (by omega) (Int.dvd_trans z cl)
  ·intro x hx
   rcases List.mem_append.mp hx with hx | hx
   ·exact h.row x hx
   ·obtain rfl:=List.mem_singleton.mp hx
    exact⟨prm,⟨e,he⟩⟩
  ·intro x hx
   rcases List.mem_append.mp hx with hx | hx
   ·have:=h.low x hx;omega
   ·obtain rfl:=List.mem_singleton.mp hx
    show p < p+1;omega
  ·rw[List.pairwise_append]
   refine⟨h.srt,List.pairwise_singleton _ _,fun a ha b hb=>?_⟩
   obtain rfl:=List.mem_singleton.mp hb
   exact h.low a ha
theorem left_pos {left q:Int}(h:1≤left)(hd:q∣left)(hq:1≤q):1≤left/q∧left/q≤left:=by
 obtain⟨c,hc⟩:=hd
 have ec:left/q=c:=by rw[hc];exact Int.mul_ediv_cancel_left c (by omega)
 rw[ec]
 have cp:1≤c:=by
  rcases Int.lt_or_le 0 c with z | z
  ·omega
  ·have:=Int.mul_le_mul_of_nonneg_left z (show 0≤q by omega)
   omega
 have:=Int.mul_le_mul_of_nonneg_right hq (show 0≤c by omega)
 omega
theorem prm_left {left p:Int}(hp:2≤p)(h:NoDiv left p)(hb:¬ p*p≤left)(h1:left > 1):Prm left∧p≤left:=by
 have pl:p≤left:=by
  rcases Int.lt_or_le left p with z | z
  ·exact absurd (Int.dvd_refl left) (h left (by omega) z)
  ·exact z
 refine⟨⟨by omega,fun d h2 h3 hd=>?_⟩,pl⟩
 obtain⟨c,hc⟩:=id hd
 by_cases dp:d < p
 ·exact h d h2 dp hd
 ·have c2:2≤c:=by
   rcases Int.lt_or_le c 2 with z | z
   ·have:c≤1:=by omega
    have:=Int.mul_le_mul_of_nonneg_left this (show 0≤d by omega)
    omega
   ·exact z
  by_cases cp:c < p
  ·exact h c c2 cp ⟨d,by rw[hc,Int.mul_comm]⟩
  ·have a1:=Int.mul_le_mul_of_nonneg_left (show p≤c by omega) (show 0≤d by omega)
   have a2:=Int.mul_le_mul_of_nonneg_right (show p≤d by omega) (show 0≤p by omega)
   omega
theorem endA {n:Int}{ps:List (Int×Int)}{left p:Int}(hp:2≤p)(h:PInv n ps left p)(hb:¬ p*p≤left)(h1:left > 1):Parts n (ps ++ [(left,left)]):=by
 obtain⟨pr,pl⟩:=prm_left hp h.nod hb h1
 refine⟨?_,?_,?_⟩
 ·rw[zBb];simp only [Prd,Int.mul_one];exact h.prd
 ·intro x hx
  rcases List.mem_append.mp hx with hx | hx
  ·exact h.row x hx
  ·obtain rfl:=List.mem_singleton.mp hx
   exact⟨pr,⟨0,(pow1 left).symm⟩⟩
 ·rw[List.pairwise_append]
  refine⟨h.srt,List.pairwise_singleton _ _,fun a ha b hb=>?_⟩
  obtain rfl:=List.mem_singleton.mp hb
  have:=h.low a ha
  show a.1 < left;omega
theorem endB {n:Int}{ps:List (Int×Int)}{left p:Int}(h:PInv n ps left p)(h0:1≤left)(h1:¬ left > 1):Parts n ps:=by
 have:left=1:=by omega
 refine⟨?_,h.row,h.srt⟩
 have:=h.prd
 rw[‹left=1›,Int.mul_one] at this
 exact this
structure RInv (p q r:Int):Prop where
 ex:∃ k e:Nat,r=p^(k+1)∧q=p^(e+1)∧k≤e
theorem zCg {p:Int}(hp:2≤p)(k:Nat):1≤p^k:=by
 induction k with
 | zero=>simp
 | succ k ih =>
  rw[Int.pow_succ]
  have:=Int.mul_le_mul_of_nonneg_left hp (show 0≤p^k by omega)
  omega
theorem pow_mono {p:Int}(hp:2≤p){k e:Nat}(h:k≤e):p^k≤p^e:=by
 obtain⟨d,rfl⟩:=Nat.exists_eq_add_of_le h
 rw[Int.pow_add]
 have a:=zCg hp k
 have:=Int.mul_le_mul_of_nonneg_left (zCg hp d) (show 0≤p^k by omega)
 omega
theorem r_pos {p q r:Int}(hp:2≤p)(h:RInv p q r):1≤r∧r≤q:=by
 obtain⟨k,e,hr,hq,hk⟩:=h
 rw[hr,hq]
 exact⟨zCg hp _,pow_mono hp (by omega)⟩
theorem r2 {p q r:Int}(hp:2≤p)(h:RInv p q r)(hl:¬ r < q):r=q:=by
 have:=r_pos hp h;omega
theorem zBn {x:Int×Int}(h:Row x):2≤x.1∧x.1≤x.2:=by
 obtain⟨e,he⟩:=h.pw
 refine⟨h.pr.1,?_⟩
 have a:=pow_mono h.pr.1 (show 0+1≤e+1 by omega)
 rw[← he,pow1] at a
 exact a
theorem zAi:∀ (ps:List (Int×Int)),(∀ x∈ps,Row x)→1≤Prd ps
 | [],_=>by simp [Prd]
 | x::r,h=>by
  have a:=zBn (h x List.mem_cons_self)
  have b:=zAi r fun y hy=>h y (List.mem_cons_of_mem _ hy)
  have c:=Int.mul_le_mul_of_nonneg_right (show 1≤x.2 by omega) (show 0≤Prd r by omega)
  simp only [Prd];omega
theorem le_Prd:∀ (ps:List (Int×Int)),(∀ x∈ps,Row x)→∀ x∈ps,x.2≤Prd ps
 | [],_,_,h=>nomatch h
 | y::r,h,x,hx=>by
  have a:=zBn (h y List.mem_cons_self)
  have h':∀ z∈r,Row z:=fun z hz=>h z (List.mem_cons_of_mem _ hz)
  have b:=zAi r h'
  simp only [Prd]
  rcases List.mem_cons.mp hx with e | e
  ·rw[e]
   have c:=Int.mul_le_mul_of_nonneg_left b (show 0≤y.2 by omega)
   omega
  ·have i:=le_Prd r h' x e
   have c:=Int.mul_le_mul_of_nonneg_right (show 1≤y.2 by omega) (show 0≤Prd r by omega)
   omega
end Pt
namespace Pt
theorem copr {p a:Int}(hp:Prm p)(h:¬ p∣a):Nat.Coprime p.natAbs a.natAbs:=by
 have g1:(Nat.gcd p.natAbs a.natAbs)∣p.natAbs:=Nat.gcd_dvd_left _ _
 have g2:(Nat.gcd p.natAbs a.natAbs)∣a.natAbs:=Nat.gcd_dvd_right _ _
 have e1:((Nat.gcd p.natAbs a.natAbs:Nat):Int)∣p:=Int.ofNat_dvd_left.mpr g1
 have e2:((Nat.gcd p.natAbs a.natAbs:Nat):Int)∣a:=Int.ofNat_dvd_left.mpr g2
 have p2:=hp.1
 have gp:0 < Nat.gcd p.natAbs a.natAbs:=Nat.gcd_pos_of_pos_left _ (by omega)
 have gl:((Nat.gcd p.natAbs a.natAbs:Nat):Int)≤p:=Int.le_of_dvd (by omega) e1
 show Nat.gcd p.natAbs a.natAbs=1
 rcases Nat.lt_or_ge (Nat.gcd p.natAbs a.natAbs) 2 with z | z
 ·omega
 ·rcases Int.lt_or_le ((Nat.gcd p.natAbs a.natAbs:Nat):Int) p with y | y
  ·exact absurd e1 (hp.2 _ (by omega) y)
  ·have:((Nat.gcd p.natAbs a.natAbs:Nat):Int)=p:=by omega
   rw[this] at e2
   exact absurd e2 h
theorem euclid {p a b:Int}(hp:Prm p)(h:p∣a*b):p∣a∨p∣b:=by
 by_cases c:p∣a
 ·exact .inl c
 ·right
  have q:=copr hp c
  have h':p.natAbs∣a.natAbs*b.natAbs:=by rw[← Int.natAbs_mul];exact Int.natAbs_dvd_natAbs.mpr h
  exact Int.natAbs_dvd_natAbs.mp (q.dvd_of_dvd_mul_left h')
theorem prm_pow {p r:Int}(hp:Prm p)(hr:Prm r):∀ e:Nat,p∣r^e→p=r
 | 0,h=>by
  have:=Int.le_of_dvd (show (0:Int) < 1 by decide) (show p∣1 by simpa using h)
  have:=hp.1;omega
 | e+1,h=>by
  rw[Int.pow_succ] at h
  rcases euclid hp h with z | z
  ·exact prm_pow hp hr e z
  ·have l:=Int.le_of_dvd (by have:=hr.1;omega) z
   rcases Int.lt_or_le p r with y | y
   ·exact absurd z (hr.2 p hp.1 y)
   ·omega
theorem zBp {p:Int}(hp:Prm p):∀ (ps:List (Int×Int)),(∀ x∈ps,Row x)→p∣Prd ps→∃ x∈ps,x.1=p
 | [],_,h=>by
  have:=Int.le_of_dvd (by decide) (show p∣1 from h)
  have:=hp.1;omega
 | x::r,h,d=>by
  have d':p∣x.2*Prd r:=d
  rcases euclid hp d' with z | z
  ·obtain⟨e,he⟩:=(h x List.mem_cons_self).pw
   rw[he] at z
   exact⟨x,List.mem_cons_self,(prm_pow hp (h x List.mem_cons_self).pr _ z).symm⟩
  ·obtain⟨y,hy,e⟩:=zBp hp r (fun y hy=>h y (List.mem_cons_of_mem _ hy)) z
   exact⟨y,List.mem_cons_of_mem _ hy,e⟩
theorem pow_ne {p:Int}(hp:2≤p)(k:Nat):p^k≠0:=by have:=zCg hp k;omega
theorem uniq {p d d':Int}(hp:Prm p)(h:¬ p∣d)(h':¬ p∣d'):∀ {j k:Nat},d*p^j=d'*p^k→j=k∧d=d'
 | 0,0,e=>by simpa using e
 | 0,k+1,e=>by
  exfalso;apply h
  rw[Int.pow_zero,Int.mul_one] at e
  rw[e,Int.pow_succ,← Int.mul_assoc];exact Int.dvd_mul_left _ _
 | j+1,0,e=>by
  exfalso;apply h'
  rw[Int.pow_zero,Int.mul_one] at e
  rw[← e,Int.pow_succ,← Int.mul_assoc];exact Int.dvd_mul_left _ _
 | j+1,k+1,e=>by
  rw[Int.pow_succ,Int.pow_succ,← Int.mul_assoc,← Int.mul_assoc] at e
  have p2:=hp.1
  obtain⟨a,b⟩:=uniq hp h h' (Int.eq_of_mul_eq_mul_right (by omega) e)
  exact⟨by omega,b⟩
theorem pow_dvd {p:Int}{j e:Nat}(h:j+1≤e):p^(j+1)∣p^e:=by
 obtain⟨d,rfl⟩:=Nat.exists_eq_add_of_le h
 rw[Int.pow_add p (j+1) d];exact Int.dvd_mul_right _ _
end Pt
namespace Pt
def IsSign (n s:Int):Prop :=
 ((∃ p,Prm p∧p*p∣n)∧s=0)∨((∀ p,Prm p→¬ p*p∣n)∧∃ l:List Int,l.Nodup∧(∀ p,p∈l↔Prm p∧p∣n)∧s=(-1)^l.length)
theorem prm_dvd {p r:Int}(hp:Prm p)(hr:Prm r)(h:p∣r):p=r:=prm_pow hp hr (0+1) (by rw[pow1];exact h)
open Classical in
noncomputable def mu (n:Int):Int:=if h:∃ s,IsSign n s then Classical.choose h else 0
theorem take_snoc {α:Type}{ps:List α}{i:Nat}{x:α}(h:ps[i]?=some x):ps.take (i+1)=ps.take i ++ [x]:=by rw[List.take_add_one,h];rfl
end Pt
namespace Pt
theorem zDz {ps:List (Int×Int)}{x:Int×Int}(h:x∈ps)(srt:ps.Pairwise fun a b=>a.1 < b.1)(row:∀ y∈ps,Row y):∃ m,Prd ps=x.2*m∧¬ x.1∣m∧1≤m:=by
 obtain⟨a,b,rfl⟩:=List.append_of_mem h
 rw[List.pairwise_append,List.pairwise_cons] at srt
 have ra:∀ y∈a,Row y:=fun y hy=>row y (List.mem_append_left _ hy)
 have rb:∀ y∈b,Row y:=fun y hy=>row y (List.mem_append_right _ (List.mem_cons_of_mem _ hy))
 have rx:=row x h
 refine⟨Prd a*Prd b,?_,fun z=>?_,?_⟩
 ·rw[zBb];simp only [Prd];rw[Int.mul_left_comm]
 ·rcases euclid rx.pr z with z | z
  ·obtain⟨y,hy,e⟩:=zBp rx.pr a ra z
   have:=srt.2.2 y hy x List.mem_cons_self
   omega
  ·obtain⟨y,hy,e⟩:=zBp rx.pr b rb z
   have:=srt.2.1.1 y hy
   omega
 ·have:=Int.mul_le_mul (zAi a ra) (zAi b rb) (by omega) (by have:=zAi a ra;omega)
  omega
theorem vG {n:Int}{ps:List (Int×Int)}(h:Parts n ps)(x:Int×Int):x∈ps↔Prm x.1∧x.1∣n∧IsPow x.1 x.2∧x.2∣n∧¬ x.2*x.1∣n:=by
 constructor
 ·intro hx
  have rx:=h.row x hx
  obtain⟨m,e,nd,m1⟩:=zDz hx h.srt h.row
  rw[h.prd] at e
  obtain⟨k,hk⟩:=rx.pw
  have dq:x.2∣n:=⟨m,e⟩
  refine⟨rx.pr,Int.dvd_trans ?_ dq,rx.pw,dq,fun z=>nd ?_⟩
  ·rw[hk,Int.pow_succ];exact Int.dvd_mul_left _ _
  ·rw[e] at z
   exact Int.dvd_of_mul_dvd_mul_left (by have:=zBn rx;omega) z
 ·rintro⟨pr,d,⟨k,hk⟩,dq,nd⟩
  rw[← h.prd] at d
  obtain⟨y,hy,e⟩:=zBp pr ps h.row d
  obtain⟨m,e2,nm,m1⟩:=zDz hy h.srt h.row
  rw[h.prd] at e2
  obtain⟨j,hj⟩:=(h.row y hy).pw
  rw[e] at hj nm
  have p2:=pr.1
  have le:∀ {a b:Nat}{c:Int},¬ x.1∣c→x.1^a∣x.1^b*c→a≤b:=by
   intro a b c hc hd
   rcases Nat.lt_or_ge b a with z | z
   ·obtain⟨t,rfl⟩:=Nat.exists_eq_add_of_le z
    rw[show b+1+t=b+(t+1) by omega,Int.pow_add] at hd
    have:=Int.dvd_of_mul_dvd_mul_left (pow_ne p2 b) hd
    exact absurd (Int.dvd_trans ⟨x.1^t,by rw[Int.pow_succ,Int.mul_comm]⟩ this) hc
   ·exact z
  have k1:k+1≤j+1:=le nm (by rw[← hj,← e2,← hk];exact dq)
  have k2:¬ k+1+1≤j+1:=fun z=>nd (by
   rw[hk,← Int.pow_succ,e2,hj]
   exact Int.dvd_trans (pow_dvd z) (Int.dvd_mul_right _ _))
  have:k=j:=by omega
  have q:x=y:=Prod.ext e.symm (by rw[hk,hj,this])
  rw[q];exact hy
theorem pairs_eq:∀ {a b:List (Int×Int)},a.Pairwise (fun x y=>x.1 < y.1)→b.Pairwise (fun x y=>x.1 < y.1)→(∀ x,x∈a↔x∈b)→a=b
 | [],[],_,_,_=>rfl
 | [],y::b,_,_,h=>by have:=(h y).mpr List.mem_cons_self;cases this
 | x::a,[],_,_,h=>by have:=(h x).mp List.mem_cons_self;cases this
 | x::a,y::b,ha,hb,h=>by
  rw[List.pairwise_cons] at ha hb
  have e:x=y:=by
   have h1:=(h x).mp List.mem_cons_self
   have h2:=(h y).mpr List.mem_cons_self
   rcases List.mem_cons.mp h1 with e | e
   ·exact e
   ·rcases List.mem_cons.mp h2 with f | f
    ·exact f.symm
    ·have:=hb.1 x e;have:=ha.1 y f;omega
  subst e
  congr 1
  refine pairs_eq ha.2 hb.2 fun z=>?_
  have q:=h z
  rw[List.mem_cons,List.mem_cons] at q
  constructor
  ·intro hz
   rcases q.mp (.inr hz) with e | e
   ·subst e;have:=ha.1 z hz;omega
   ·exact e
  ·intro hz
   rcases q.mpr (.inr hz) with e | e
   ·subst e;have:=hb.1 z hz;omega
   ·exact e
theorem w9 {n:Int}{a b:List (Int×Int)}(ha:Parts n a)(hb:Parts n b):a=b:=pairs_eq ha.srt hb.srt fun x=>by rw[vG ha,vG hb]
def cnt (n:Nat):Nat→Nat
 | 0=>0
 | d+1=>cnt n d+(bif Nat.beq (n%(d+1)) 0 then (bif Nat.blt ((d+1)*(d+1)) n then 2 else bif Nat.beq ((d+1)*(d+1)) n then 1 else 0) else 0)
def rt (n:Nat):Nat→Nat
 | 0=>0
 | d+1=>bif Nat.ble ((d+1)*(d+1)) n then d+1 else rt n d
end Pt
namespace Eh
def G (a b:Int):Int:=(Int.gcd a b:Nat)
def ab (a:Int):Int:=if a < 0 then -a else a
theorem ab_nat (a:Int):ab a=(a.natAbs:Int):=by unfold ab;split <;> omega
theorem G_ab (a b:Int):G (ab a) (ab b)=G a b:=by
 unfold G;rw[ab_nat,ab_nat]
 simp [Int.gcd]
theorem G_nonneg (a b:Int):0≤G a b:=Int.natCast_nonneg _
theorem start (a b:Int):0≤ab a∧0≤ab b∧G (ab a) (ab b)=G a b:=by
 refine⟨?_,?_,G_ab a b⟩ <;> (rw[ab_nat];omega)
theorem turn {a b g s:Int}(hg:0≤g)(hs:0≤s)(h:G g s=G a b)(ne:¬ s=0) :
  0≤s∧0≤Int.fmod g s∧G s (Int.fmod g s)=G a b:=by
 have e:=Int.fmod_eq_emod_of_nonneg g hs
 refine⟨hs,?_,?_⟩
 ·rw[e];exact Int.emod_nonneg _ ne
 ·rw[e,← h]
  unfold G
  congr 1
  obtain⟨m,rfl⟩:=Int.eq_ofNat_of_zero_le hg
  obtain⟨n,rfl⟩:=Int.eq_ofNat_of_zero_le hs
  rw[← Int.natCast_emod]
  show Nat.gcd n (m%n)=Nat.gcd m n
  rw[Nat.gcd_comm n,← Nat.gcd_rec,Nat.gcd_comm]
theorem less {g s:Int}(hs:0≤s)(ne:¬ s=0):(Int.fmod g s).toNat < s.toNat:=by
 have e:=Int.fmod_eq_emod_of_nonneg g hs
 have:=Int.emod_lt_of_pos g (show 0 < s by omega)
 have:=Int.emod_nonneg g ne
 omega
theorem out {a b g s:Int}(hg:0≤g)(h:G g s=G a b)(z:s=0):g=G a b:=by
 subst z
 unfold G at *
 have:Int.gcd g 0=g.natAbs:=Int.gcd_zero_right g
 omega
end Eh
namespace Eh
theorem turnE {a b g s:Int}(hg:0≤g)(hs:0≤s)(h:G g s=G a b)(ne:¬ s=0):0≤g%s∧G s (g%s)=G a b∧(g%s).toNat < s.toNat:=by
 have t:=turn hg hs h ne
 have l:=less (g:=g) hs ne
 rw[Int.fmod_eq_emod_of_nonneg g hs] at t l
 exact⟨t.2.1,t.2.2,l⟩
end Eh
namespace Eh
structure Bk (st n r c lr lc:Int):Prop where
 g:G r lr=G st n
 x:∃ x,r=st*c+n*x
 y:∃ y,lr=st*lc+n*y
theorem bk0 {st n:Int}(hn:0 < n):0≤n∧0≤Int.fmod st n∧Int.fmod st n < n+1∧Bk st n n 0 (Int.fmod st n) 1:=by
 have e:=Int.fmod_eq_emod_of_nonneg st (Int.le_of_lt hn)
 have h0:=Int.emod_nonneg st (show n≠0 by omega)
 have h1:=Int.emod_lt_of_pos st hn
 refine⟨by omega,by omega,by omega,?_,⟨1,?_⟩,⟨-(st/n),?_⟩⟩
 ·rw[e];unfold G;congr 1
  have d:=Int.emod_add_mul_ediv st n
  have q:Int.gcd n (st%n+n*(st/n))=Int.gcd n (st%n):=Int.gcd_add_mul_left_right ..
  rw[d] at q
  rw[← q,Int.gcd_comm]
 ·simp
 ·rw[e,Int.mul_neg,Int.mul_one]
  have:=Int.emod_add_mul_ediv st n
  omega
theorem bkt {st n r c lr lc:Int}(hr:0≤r)(h0:0≤lr)(ne:¬ lr=0)(h:Bk st n r c lr lc) :
  0≤lr∧0≤r-Int.fdiv r lr*lr∧Bk st n lr lc (r-Int.fdiv r lr*lr) (c-Int.fdiv r lr*lc):=by
 have e:=Int.fdiv_eq_ediv_of_nonneg r h0
 rw[e]
 have m:r-r/lr*lr=r%lr:=by
  have:=Int.emod_add_mul_ediv r lr
  rw[Int.mul_comm] at this;omega
 rw[m]
 obtain⟨hg,⟨x,hx⟩,⟨y,hy⟩⟩:=h
 have t:=turn hr h0 hg ne
 have f:=Int.fmod_eq_emod_of_nonneg r h0
 rw[f] at t
 refine⟨h0,t.2.1,t.2.2,⟨y,hy⟩,⟨x-r/lr*y,?_⟩⟩
 rw[← m,Int.mul_sub,Int.mul_sub]
 have a1:st*(r/lr*lc)=r/lr*(st*lc):=by rw[Int.mul_left_comm]
 have a2:n*(r/lr*y)=r/lr*(n*y):=by rw[Int.mul_left_comm]
 have a3:r/lr*lr=r/lr*(st*lc)+r/lr*(n*y):=by rw[← Int.mul_add,← hy]
 omega
theorem bkless {r lr:Int}(h0:0≤lr)(ne:¬ lr=0):(r-Int.fdiv r lr*lr).toNat < lr.toNat:=by
 have e:=Int.fdiv_eq_ediv_of_nonneg r h0
 rw[e]
 have m:r-r/lr*lr=r%lr:=by
  have:=Int.emod_add_mul_ediv r lr
  rw[Int.mul_comm] at this;omega
 rw[m]
 have:=Int.emod_lt_of_pos r (show 0 < lr by omega)
 have:=Int.emod_nonneg r ne
 omega
theorem bko {st n r c lr lc:Int}(hn:0 < n)(hr:0≤r)(h:Bk st n r c lr lc)(z:lr=0)(g1:G st n=1) :
  1≤Int.fmod (c-1) n+1∧Int.fmod (c-1) n+1≤n∧Int.fmod (st*(Int.fmod (c-1) n+1)-1) n=0:=by
 obtain⟨hg,⟨x,hx⟩,_⟩:=h
 have r1:r=1:=by rw[← g1];exact out hr hg z
 have e:=Int.fmod_eq_emod_of_nonneg (c-1) (Int.le_of_lt hn)
 have h0:=Int.emod_nonneg (c-1) (show n≠0 by omega)
 have h1:=Int.emod_lt_of_pos (c-1) hn
 refine⟨by omega,by omega,?_⟩
 rw[Int.fmod_eq_emod_of_nonneg _ (Int.le_of_lt hn),e]
 apply Int.emod_eq_zero_of_dvd
 have d:=Int.emod_add_mul_ediv (c-1) n
 refine⟨-x-st*((c-1)/n),?_⟩
 have:(c-1)%n+1=c-n*((c-1)/n):=by omega
 rw[this,Int.mul_sub,Int.mul_sub,Int.mul_neg]
 have a1:st*(n*((c-1)/n))=n*(st*((c-1)/n)):=by rw[Int.mul_left_comm]
 omega
end Eh
namespace Eh
theorem bk0E {st n:Int}(hn:0 < n):0≤st%n∧st%n < n∧Bk st n n 0 (st%n) 1:=by
 have h:=bk0 (st:=st) hn
 rw[Int.fmod_eq_emod_of_nonneg st (Int.le_of_lt hn)] at h
 exact⟨h.2.1,Int.emod_lt_of_pos st hn,h.2.2.2⟩
theorem bktE {st n r c lr lc:Int}(hr:0≤r)(h0:0≤lr)(ne:¬ lr=0)(h:Bk st n r c lr lc) :
  0≤r-r/lr*lr∧(r-r/lr*lr) < lr∧(r-r/lr*lr).toNat < lr.toNat∧Bk st n lr lc (r-r/lr*lr) (c-r/lr*lc):=by
 have t:=bkt hr h0 ne h
 have l:=bkless (r:=r) h0 ne
 rw[Int.fdiv_eq_ediv_of_nonneg r h0] at t l
 refine⟨t.2.1,by omega,l,t.2.2⟩
theorem div_le {r lr:Int}(hr:0≤r)(h0:0 < lr):0≤r/lr∧r/lr≤r:=⟨Int.ediv_nonneg hr (by omega),Int.ediv_le_self _ hr⟩
theorem bkoE {st n r c lr lc:Int}(hn:0 < n)(hr:0≤r)(h:Bk st n r c lr lc)(z:lr=0)(g1:G st n=1) :
  1≤(c-1)%n+1∧(c-1)%n+1≤n∧(st*((c-1)%n+1)-1)%n=0:=by
 have o:=bko hn hr h z g1
 rw[Int.fmod_eq_emod_of_nonneg (c-1) (Int.le_of_lt hn),Int.fmod_eq_emod_of_nonneg _ (Int.le_of_lt hn)] at o
 exact o
def us (n:Int)(i:Nat):List Int:=((List.range i).map fun (j:Nat)=>(1+(j:Int))).filter fun k=>decide (G k n=1)
end Eh
set_option linter.all false
namespace Ld
def tab (n:Nat)(F:Int→Int):List Int:=(List.range n).map fun x:Nat=>F x
theorem tab_len (n:Nat)(F:Int→Int):(tab n F).length=n:=by simp [tab]
theorem at_tab {n:Nat}{F:Int→Int}(hn:0 < n)(hF:Per n F)(x:Int):at' (tab n F) x=F x:=by
 have e:=zAv (a:=tab n F) (x:=x) (by rw[tab_len];exact hn)
 rw[tab_len] at e
 unfold tab at e
 rw[List.getElem?_map,List.getElem?_range (zEd hn x)] at e
 have e':=Option.some.inj e
 unfold tab
 rw[← e']
 show F (((x%n).toNat:Nat):Int)=_
 rw[hole_eq hn]
 exact hF.md x
theorem ext_all {a b:List Int}{n:Nat}(ha:a.length=n)(hb:b.length=n)(h:∀ x:Int,at' a x=at' b x):a=b:=ext (ha.trans hb.symm) fun k _=>h k
theorem bez {st n:Int}:∀ (m:Nat)(r c lr lc:Int),lr.toNat=m→0≤r→0≤lr→Eh.Bk st n r c lr lc→∃ c' x,Eh.G st n=st*c'+n*x:=by
 intro m
 induction m using Nat.strongRecOn with
 | ind m ih =>
  intro r c lr lc hm hr h0 h
  by_cases z:lr=0
  ·obtain⟨hg,⟨x,hx⟩,_⟩:=h
   have:=Eh.out hr hg z
   exact⟨c,x,by rw[← this];exact hx⟩
  ·have t:=Eh.bktE hr h0 z h
   exact ih _ (by rw[← hm];exact t.2.2.1) _ _ _ _ rfl h0 t.1 t.2.2.2
theorem inv_of {st:Int}{n:Nat}(hn:0 < n)(g:Eh.G st n=1):∃ v,(st*v)%n=1%n:=by
 have b:=Eh.bk0E (st:=st) (n:=n) (by omega)
 obtain⟨c,x,e⟩:=bez _ _ _ _ _ rfl (by omega) b.1 b.2.2
 refine⟨c,?_⟩
 rw[g] at e
 rw[e,Int.add_mul_emod_self_left]
def turned (a:List Int)(far:Int):List Int:=tab a.length fun x=>at' a (x-far)
theorem turned_len (a:List Int)(far:Int):(turned a far).length=a.length:=tab_len _ _
theorem per_sub {a:List Int}{n:Nat}(h:a.length=n)(c:Int):Per n fun x=>at' a (x-c):=fun x y e=>vM h _ _ (by rw[Int.sub_emod,e,← Int.sub_emod])
theorem at_turned {a:List Int}(hn:0 < a.length)(far x:Int):at' (turned a far) x=at' a (x-far):=at_tab hn (per_sub rfl far) x
structure Skp (n:Nat)(st:Int)(a o:List Int):Prop where
 la:a.length=n
 lo:o.length=n
 at_:∀ x:Int,at' o (x*st)=at' a x
theorem Skp.val {n:Nat}{st v:Int}{a o:List Int}(h:Skp n st a o)(hv:(st*v)%n=1%n)(y:Int):at' o y=at' a (y*v):=by
 rw[← h.at_]
 refine vM h.lo _ _ ?_
 rw[Int.mul_assoc,Int.mul_comm v st,Int.mul_emod,hv,← Int.mul_emod,Int.mul_one]
theorem Skp.uniq {n:Nat}{st v:Int}{a o p:List Int}(h:Skp n st a o)(g:Skp n st a p)(hv:(st*v)%n=1%n):o=p :=
 ext_all h.lo g.lo fun x=>by rw[h.val hv,g.val hv]
theorem Skp.plus {n:Nat}(hn:0 < n){s:Int}{a b l r:List Int}(h:Skp n s a l)(g:Skp n s b r):Skp n s (plus a b) (plus l r) :=
 ⟨by rw[zAf (h.la.trans g.la.symm),h.la],by rw[zAf (h.lo.trans g.lo.symm),h.lo],fun x=>by
  rw[at_plus (h.lo.trans g.lo.symm) (by rw[h.lo];exact hn),at_plus (h.la.trans g.la.symm) (by rw[h.la];exact hn),h.at_,g.at_]⟩
theorem Skp.turned {n:Nat}(hn:0 < n){s:Int}{a l:List Int}(h:Skp n s a l)(far:Int):Skp n s (turned a far) (turned l (far*s)) :=
 ⟨by rw[turned_len,h.la],by rw[turned_len,h.lo],fun x=>by
  rw[at_turned (by rw[h.lo];exact hn),at_turned (by rw[h.la];exact hn),← Int.sub_mul,h.at_]⟩
theorem at_mem {a:List Int}(h:0 < a.length)(x:Int):at' a x∈a:=List.mem_of_getElem? (zAv h)
end Ld
set_option linter.all false
namespace Ld
def finF (a:List Int)(q:Nat)(x:Int):Int:=if x%q=0 then at' a (x/q) else 0
def fin (a:List Int)(q:Nat):List Int:=tab (q*a.length) (finF a q)
theorem zAu (a:List Int)(q:Nat):(fin a q).length=q*a.length:=tab_len _ _
theorem div_mod {n q:Nat}(hq:0 < q){x y:Int}(h:x%((q*n:Nat):Int)=y%((q*n:Nat):Int)):x%q=y%q∧(x/q)%n=(y/q)%n:=by
 have d:((q:Nat):Int)∣((q*n:Nat):Int):=by rw[Int.natCast_mul];exact Int.dvd_mul_right _ _
 refine⟨?_,?_⟩
 ·rw[← Int.emod_emod_of_dvd x d,h,Int.emod_emod_of_dvd y d]
 ·have e:((q*n:Nat):Int)∣x-y:=Int.dvd_of_emod_eq_zero (Int.emod_eq_emod_iff_emod_sub_eq_zero.mp h)
  obtain⟨t,ht⟩:=e
  rw[Int.natCast_mul] at ht
  have ex:x=y+q*(n*t):=by rw[← Int.mul_assoc];omega
  rw[ex,Int.add_mul_ediv_left _ _ (by omega),Int.add_mul_emod_self_left]
theorem per_fin {a:List Int}{q n:Nat}(ha:a.length=n)(hq:0 < q):Per (q*n) (finF a q):=fun x y h=>by
 have d:=div_mod hq h
 unfold finF
 rw[d.1,vM ha _ _ d.2]
theorem at_fin {a:List Int}{q:Nat}(hn:0 < a.length)(hq:0 < q)(x:Int):at' (fin a q) x=if x%q=0 then at' a (x/q) else 0:=at_tab (Nat.mul_pos hq hn) (per_fin rfl hq) x
theorem S_split (F:Int→Int)(m:Nat):∀ k:Nat,S (m+k) F=S m F+S k fun j=>F (m+j)
 | 0=>by simp [S]
 | k+1=>by
  show S (m+k) F+F ((m+k:Nat):Int)=_
  rw[S_split F m k]
  simp only [S]
  rw[Int.natCast_add];omega
theorem S_mult {q:Nat}(hq:0 < q)(G:Int→Int):∀ n:Nat,S (q*n) (fun j=>if j%q=0 then G j else 0)=S n fun i=>G (q*i)
 | 0=>rfl
 | n+1=>by
  rw[Nat.mul_succ,S_split,S_mult hq G n]
  simp only [S]
  congr 1
  have e:S q (fun j=>if (((q*n:Nat):Int)+j)%q=0 then G (((q*n:Nat):Int)+j) else 0)=S q (fun j=>if j=0 then G (((q*n:Nat):Int)+j) else 0):=jO fun j hj=>by
   have:(((q*n:Nat):Int)+j)%q=j:=by
    rw[Int.natCast_mul,Int.add_comm,Int.add_mul_emod_self_left,Int.emod_eq_of_lt (by omega) (by omega)]
   rw[this]
  rw[e,S_one (Int.le_refl 0),if_pos (by omega),Int.add_zero,Int.natCast_mul]
theorem inv_down {st v:Int}{n q:Nat}(h:(st*v)%((q*n:Nat):Int)=1%((q*n:Nat):Int)):(st*v)%n=1%n∧(st*v)%q=1%q:=by
 have d1:((n:Nat):Int)∣((q*n:Nat):Int):=by rw[Int.natCast_mul];exact Int.dvd_mul_left _ _
 have d2:((q:Nat):Int)∣((q*n:Nat):Int):=by rw[Int.natCast_mul];exact Int.dvd_mul_right _ _
 exact⟨by rw[← Int.emod_emod_of_dvd _ d1,h,Int.emod_emod_of_dvd _ d1],by rw[← Int.emod_emod_of_dvd _ d2,h,Int.emod_emod_of_dvd _ d2]⟩
theorem Skp.fin {n q:Nat}(hn:0 < n)(hq:0 < q){st v:Int}{a o:List Int}(h:Skp n st a o)(hv:(st*v)%((q*n:Nat):Int)=1%((q*n:Nat):Int)):Skp (q*n) st (fin a q) (fin o q) :=
 ⟨by rw[zAu,h.la],by rw[zAu,h.lo],fun x=>by
  rw[at_fin (by rw[h.lo];exact hn) hq,at_fin (by rw[h.la];exact hn) hq]
  have iq:=(inv_down hv).2
  by_cases z:x%q=0
  ·obtain⟨y,rfl⟩:=Int.dvd_of_emod_eq_zero z
   rw[if_pos z,if_pos (by rw[Int.mul_assoc,Int.mul_emod_right]),Int.mul_assoc,Int.mul_ediv_cancel_left _ (by omega),Int.mul_ediv_cancel_left _ (by omega),h.at_]
  ·rw[if_neg z,if_neg fun w=>z ?_]
   have:(x*st*v)%q=x%q:=by rw[Int.mul_assoc,Int.mul_emod,iq,← Int.mul_emod,Int.mul_one]
   rw[← this,Int.mul_emod,w,Int.zero_mul,Int.zero_emod]⟩
theorem ffill1 {a o:List Int}{n N q i:Nat}(ho:o.length=N)(hN:N=q*n)(hq:0 < q)(hi:i < n)(h1:∀ k:Nat,k < i→at' o ((q:Int)*k)=at' a k)(h2:∀ x:Int,(∀ k:Nat,k < i→x%N≠q*k)→at' o x=0) :
  (∀ k:Nat,k < i+1→at' (o.set (((q:Int)*i)%N).toNat (at' a i)) ((q:Int)*k)=at' a k)∧(∀ x:Int,(∀ k:Nat,k < i+1→x%N≠q*k)→at' (o.set (((q:Int)*i)%N).toNat (at' a i)) x=0):=by
 have hNp:0 < N:=by rw[hN];exact Nat.mul_pos hq (by omega)
 have lt:∀ k:Nat,k < n→((q:Int)*k)%N=q*k:=fun k hk=>by
  refine Int.emod_eq_of_lt (Int.mul_nonneg (by omega) (by omega)) ?_
  rw[hN,Int.natCast_mul]
  exact Int.mul_lt_mul_of_pos_left (by omega) (by omega)
 refine⟨fun k hk=>?_,fun x hx=>?_⟩
 ·rw[zFu ho hNp]
  by_cases e:((q:Int)*k)%N=((q:Int)*i)%N
  ·rw[if_pos e]
   rw[lt k (by omega),lt i hi] at e
   have:=Int.eq_of_mul_eq_mul_left (by omega) e
   rw[show k=i by omega]
  ·rw[if_neg e]
   have:k≠i:=fun z=>e (by rw[z])
   exact h1 k (by omega)
 ·rw[zFu ho hNp,if_neg (by rw[lt i hi];exact hx i (by omega))]
  exact h2 x fun k hk=>hx k (by omega)
theorem ffill_end {a o:List Int}{n q:Nat}(ha:a.length=n)(hn:0 < n)(hq:0 < q)(ho:o.length=q*n)(h1:∀ k:Nat,k < n→at' o ((q:Int)*k)=at' a k)(h2:∀ x:Int,(∀ k:Nat,k < n→x%((q*n:Nat):Int)≠q*k)→at' o x=0):o=fin a q:=by
 have hNp:0 < q*n:=Nat.mul_pos hq hn
 refine ext_all ho (by rw[zAu,ha]) fun x=>?_
 rw[at_fin (by omega) hq]
 have d:=div_mod (n:=n) hq (show x%((q*n:Nat):Int)=(x%((q*n:Nat):Int))%((q*n:Nat):Int) from (Int.emod_emod_of_dvd x (Int.dvd_refl _)).symm)
 have y0:=Int.emod_nonneg x (show ((q*n:Nat):Int)≠0 by omega)
 have y1:=Int.emod_lt_of_pos x (show (0:Int) < ((q*n:Nat):Int) by omega)
 have px:=(vM ho).md x
 rw[d.1,vM ha _ _ d.2,← px]
 generalize x%((q*n:Nat):Int)=y at y0 y1
 by_cases z:y%q=0
 ·obtain⟨k,rfl⟩:=Int.dvd_of_emod_eq_zero z
  have k0:0≤k:=by
   rcases Int.lt_or_le k 0 with w | w
   ·have:=Int.mul_neg_of_pos_of_neg (show (0:Int) < q by omega) w;omega
   ·exact w
  have k1:k < n:=by
   rw[Int.natCast_mul] at y1
   exact Int.lt_of_mul_lt_mul_left y1 (by omega)
  rw[if_pos z,Int.mul_ediv_cancel_left _ (by omega)]
  have:=h1 k.toNat (by omega)
  rwa [Int.toNat_of_nonneg k0] at this
 ·rw[if_neg z]
  refine h2 y fun k hk e=>z ?_
  rw[Int.emod_eq_of_lt y0 y1] at e
  rw[e,Int.mul_emod_right]
theorem bd_fin {B:Nat}{a:List Int}(h:Bd B a)(hn:0 < a.length){q:Nat}(hq:0 < q):Bd B (fin a q):=bd_of fun k _=>by
 rw[at_fin hn hq]
 split
 ·exact at_bd h _
 ·exact Nat.zero_le _
end Ld
set_option linter.all false
namespace Pl
theorem qend {m p:Int}(hm:1≤m)(hp:2≤p):∀ (k:Nat)(q:Int),(m-q).toNat=k→Pt.QInv m p q→∃ q',Pt.QEnd m p q':=by
 intro k
 induction k using Nat.strongRecOn with
 | ind k ih =>
  intro q hk h
  by_cases d:m%(q*p)=0
  ·have h1:=Pt.q1 hp h d
   have g:=Pt.q_grow hp h.pos
   have l:=Pt.q_le hm h1
   exact ih _ (by omega) _ rfl h1
  ·exact⟨q,Pt.q2 h d⟩
theorem parts_ex {n:Int}(hn:1≤n):∃ ps,Pt.Parts n ps:=by
 have go:∀ (k:Nat)(ps:List (Int×Int))(left p:Int),(n+2-p).toNat=k→Pt.PInv n ps left p→2≤p→1≤left→left≤n→∃ ps,Pt.Parts n ps:=by
  intro k
  induction k using Nat.strongRecOn with
  | ind k ih =>
   intro ps left p hk h p2 l1 ln
   by_cases c:p*p≤left
   ·have pl:p≤left:=by have:=Int.mul_le_mul_of_nonneg_left (show 1≤p by omega) (show 0≤p by omega);omega
    obtain⟨q,hq⟩:=qend l1 p2 _ 1 rfl (Pt.q0 left p)
    by_cases g:q > 1
    ·have lp:=Pt.left_pos l1 hq.inv.dv hq.inv.pos
     exact ih _ (by omega) _ _ (p+1) rfl (Pt.turnA p2 h hq g) (by omega) lp.1 (by omega)
    ·exact ih _ (by omega) _ _ (p+1) rfl (Pt.turnB h hq g) (by omega) l1 ln
   ·by_cases g:left > 1
    ·exact⟨_,Pt.endA p2 h c g⟩
    ·exact⟨_,Pt.endB h l1 g⟩
 exact go _ [] n 2 rfl (Pt.start n) (by omega) hn (Int.le_refl _)
def ds (n:Nat):Nat→List Int
 | 0=>[]
 | k+1=>ds n k ++ (if ((k:Int)+1)∣(n:Int) then [(k:Int)+1] else [])
noncomputable def pv (n:Nat)(far:Int):Int:=(((ds n n).filter fun d=>decide (d∣far)).map fun d=>d*Pt.mu (n/d)).sum
theorem S_const (c:Int):∀ n:Nat,Ld.S n (fun _=>c)=n*c
 | 0=>by simp [Ld.S]
 | n+1=>by simp only [Ld.S];rw[S_const c n,Int.natCast_succ,Int.add_mul,Int.one_mul]
noncomputable def mk (n:Nat)(d:Int):Int×Int:=(d,d*Pt.mu (n/d))
theorem S_sum (F:Int→Int):∀ n:Nat,((List.range n).map fun j:Nat=>F j).sum=Ld.S n F
 | 0=>rfl
 | n+1=>by rw[List.range_succ,List.map_append,List.sum_append,S_sum F n];simp [Ld.S]
end Pl
set_option linter.all false
namespace Rs
open Pt (Parts Prd Prm Row IsPow)
theorem cdvd {a b t:Int}(h:Nat.Coprime a.natAbs b.natAbs)(ha:a∣t)(hb:b∣t):a*b∣t:=by
 rw[← Int.natAbs_dvd_natAbs] at ha hb ⊢
 rw[Int.natAbs_mul]
 exact Nat.Coprime.mul_dvd_of_dvd_of_dvd h ha hb
theorem w6 {a b t:Int}(h:Nat.Coprime a.natAbs b.natAbs)(hd:a∣b*t):a∣t:=by
 rw[← Int.natAbs_dvd_natAbs] at hd ⊢
 rw[Int.natAbs_mul] at hd
 exact Nat.Coprime.dvd_of_dvd_mul_left h hd
theorem cop_pow {p m:Int}(hp:Prm p)(h:¬ p∣m)(e:Nat):Nat.Coprime (p^e).natAbs m.natAbs:=by
 rw[Int.natAbs_pow]
 exact Nat.Coprime.pow_left e (Pt.copr hp h)
theorem wS {n:Int}{ps:List (Int×Int)}(hp:Parts n ps){x:Int×Int}(hx:x∈ps):∃ m,n=x.2*m∧n/x.2=m∧¬ x.1∣m∧2≤x.2∧x.1∣x.2∧Nat.Coprime x.2.natAbs m.natAbs:=by
 obtain⟨m,e,nd,_⟩:=Pt.zDz hx hp.srt hp.row
 rw[hp.prd] at e
 have row:=hp.row x hx
 obtain⟨k,hk⟩:=row.pw
 have l:=Pt.zBn row
 refine⟨m,e,by rw[e];exact Int.mul_ediv_cancel_left _ (by omega),nd,by omega,by rw[hk,Int.pow_succ];exact Int.dvd_mul_left _ _,?_⟩
 rw[hk];exact cop_pow row.pr nd _
theorem G_part {n:Int}{ps:List (Int×Int)}(hp:Parts n ps){x:Int×Int}(hx:x∈ps):Eh.G (n/x.2) x.2=1:=by
 obtain⟨m,_,e,_,_,_,c⟩:=wS hp hx
 rw[e]
 unfold Eh.G Int.gcd
 rw[Nat.gcd_comm]
 have:Nat.gcd x.2.natAbs m.natAbs=1:=c
 rw[this];rfl
theorem cop_xy {x y:Int×Int}(hx:Row x)(hy:Row y)(ne:x.1≠y.1):Nat.Coprime x.2.natAbs y.2.natAbs:=by
 obtain⟨k,hk⟩:=hx.pw
 obtain⟨j,hj⟩:=hy.pw
 rw[hk]
 refine cop_pow hx.pr (fun d=>ne ?_) _
 rw[hj] at d
 exact Pt.prm_pow hx.pr hy.pr _ d
theorem all_dvd {t:Int}:∀ {ps:List (Int×Int)},(∀ x∈ps,Row x)→ps.Pairwise (fun a b=>a.1 < b.1)→(∀ x∈ps,x.2∣t)→Prd ps∣t
 | [],_,_,_=>Int.one_dvd t
 | x::r,row,srt,h=>by
  have ⟨s1,s2⟩:=List.pairwise_cons.mp srt
  have ih:=all_dvd (fun y hy=>row y (List.mem_cons_of_mem _ hy)) s2 (fun y hy=>h y (List.mem_cons_of_mem _ hy))
  have cop:∀ {l:List (Int×Int)},(∀ y∈l,Row y∧x.1≠y.1)→Nat.Coprime x.2.natAbs (Prd l).natAbs:=by
   intro l
   induction l with
   | nil=>intro _;simp [Prd]
   | cons y l ih =>
    intro hl
    have a:=hl y List.mem_cons_self
    have b:=ih fun z hz=>hl z (List.mem_cons_of_mem _ hz)
    simp only [Prd]
    rw[Int.natAbs_mul]
    exact Nat.Coprime.mul_right (cop_xy (row x List.mem_cons_self) a.1 a.2) b
  exact cdvd (cop fun y hy=>⟨row y (List.mem_cons_of_mem _ hy),by have:=s1 y hy;omega⟩) (h x List.mem_cons_self) ih
theorem cross {n:Int}{ps:List (Int×Int)}(hp:Parts n ps){x y:Int×Int}(hx:x∈ps)(hy:y∈ps)(ne:x.1≠y.1):x.2∣n/y.2:=by
 obtain⟨m,e,e',_⟩:=wS hp hy
 obtain⟨m',f,_⟩:=wS hp hx
 rw[e']
 refine w6 (cop_xy (hp.row x hx) (hp.row y hy) ne) ?_
 rw[← e,f];exact Int.dvd_mul_right _ _
structure Sh (n q hole c:Int):Prop where
 lo:0≤c
 hi:c < q
 dv:q∣c*(n/q)-hole
theorem sh_of {n q hole u:Int}(hq:0 < q)(hu:(n/q*u-1)%q=0):Sh n q hole (hole*u%q):=by
 refine⟨Int.emod_nonneg _ (by omega),Int.emod_lt_of_pos _ hq,?_⟩
 have d1:q∣hole*u-hole*u%q:=Int.dvd_self_sub_emod
 have d2:q∣n/q*u-1:=Int.dvd_of_emod_eq_zero hu
 have e:hole*u%q*(n/q)-hole=hole*(n/q*u-1)-(hole*u-hole*u%q)*(n/q):=by
  rw[Int.mul_sub,Int.sub_mul,Int.mul_one]
  have:hole*(n/q*u)=hole*u*(n/q):=by rw[Int.mul_assoc,Int.mul_comm u]
  omega
 rw[e]
 exact Int.dvd_sub (Int.dvd_mul_of_dvd_right d2) (Int.dvd_mul_of_dvd_left d1)
theorem sh_one {n q h h' c c':Int}(cop:Nat.Coprime q.natAbs (n/q).natAbs)(a:Sh n q h c)(b:Sh n q h' c')(e:q∣h-h'):c=c':=by
 have d:q∣n/q*(c-c'):=by
  have:=Int.dvd_add (Int.dvd_sub a.dv b.dv) e
  have z:c*(n/q)-h-(c'*(n/q)-h')+(h-h')=n/q*(c-c'):=by
   rw[Int.mul_sub,Int.mul_comm (n/q) c,Int.mul_comm (n/q) c'];omega
  rwa [z] at this
 have d':=w6 cop d
 have z:=Int.emod_eq_emod_iff_emod_sub_eq_zero.mpr (Int.emod_eq_zero_of_dvd d')
 rwa [Int.emod_eq_of_lt a.lo a.hi,Int.emod_eq_of_lt b.lo b.hi] at z
theorem cop_part {n:Int}{ps:List (Int×Int)}(hp:Parts n ps){x:Int×Int}(hx:x∈ps):Nat.Coprime x.2.natAbs (n/x.2).natAbs:=by
 obtain⟨m,_,e,_,_,_,c⟩:=wS hp hx
 rw[e];exact c
theorem len_parts {n:Int}{ps:List (Int×Int)}(hp:Pt.Parts n ps):(ps.length:Int)≤n:=by
 have key:∀ l:List (Int×Int),(∀ x∈l,Pt.Row x)→(l.length:Int)≤Pt.Prd l:=by
  intro l
  induction l with
  | nil=>intro _;simp [Pt.Prd]
  | cons x r ih =>
   intro h
   have a:=ih fun y hy=>h y (List.mem_cons_of_mem _ hy)
   have b:=Pt.zBn (h x List.mem_cons_self)
   have c:=Pt.zAi r fun y hy=>h y (List.mem_cons_of_mem _ hy)
   simp only [Pt.Prd,List.length_cons]
   have:=Int.mul_le_mul_of_nonneg_right (show 2≤x.2 by omega) (show 0≤Pt.Prd r by omega)
   omega
 have:=key ps hp.row
 rwa [hp.prd] at this
end Rs
set_option linter.all false
namespace Ps
open Pt (Prm Parts Row Prd)
def dot:List Int→List Int→Int
 | c::cs,p::pl=>c*p+dot cs pl
 | _,_=>0
def Can (pl:List Int)(many:Int):Prop:=∃ cs:List Int,cs.length=pl.length∧(∀ c∈cs,0≤c)∧dot cs pl=many
theorem can0 {many:Int}:Can [] many↔many=0:=by
 constructor
 ·rintro⟨cs,hl,_,e⟩
  cases cs with
  | nil=>exact e.symm
  | cons c r=>simp at hl
 ·intro e;exact⟨[],rfl,by simp,e.symm⟩
theorem can1 {p many:Int}(hp:2≤p):Can [p] many↔0≤many∧many%p=0:=by
 constructor
 ·rintro⟨cs,hl,h0,e⟩
  match cs,hl with
  | [c],_ =>
   have c0:=h0 c (by simp)
   have e':c*p+0=many:=e
   rw[Int.add_zero] at e'
   rw[← e']
   exact⟨Int.mul_nonneg c0 (by omega),Int.mul_emod_left _ _⟩
 ·rintro⟨m0,d⟩
  refine⟨[many/p],rfl,fun c hc=>?_,?_⟩
  ·rw[List.mem_singleton.mp hc];exact Int.ediv_nonneg m0 (by omega)
  ·show many/p*p+0=many
   rw[Int.add_zero];exact Int.ediv_mul_cancel (Int.dvd_of_emod_eq_zero d)
theorem can2 {p r many:Int}:Can [p,r] many↔∃ a b:Int,0≤a∧0≤b∧a*p+b*r=many:=by
 constructor
 ·rintro⟨cs,hl,h0,e⟩
  match cs,hl with
  | [a,b],_ =>
   have e':a*p+(b*r+0)=many:=e
   exact⟨a,b,h0 a (by simp),h0 b (by simp),by omega⟩
 ·rintro⟨a,b,a0,b0,e⟩
  refine⟨[a,b],rfl,fun c hc=>?_,?_⟩
  ·rcases List.mem_cons.mp hc with w | w
   ·rw[w];exact a0
   ·rw[List.mem_singleton.mp w];exact b0
  ·show a*p+(b*r+0)=many
   omega
theorem can_pos {p r many:Int}(hp:2≤p)(hr:2≤r)(h:Can [p,r] many):0≤many:=by
 obtain⟨a,b,a0,b0,e⟩:=can2.mp h
 have:=Int.mul_nonneg a0 (show 0≤p by omega)
 have:=Int.mul_nonneg b0 (show 0≤r by omega)
 omega
theorem can_left {p r many u:Int}(hp:2≤p)(hr:2≤r)(hu:(r*u-1)%p=0):(many-(many*u%p)*r)%p=0∧((0≤many-(many*u%p)*r)↔Can [p,r] many):=by
 have c0:=Int.emod_nonneg (many*u) (show p≠0 by omega)
 have c1:=Int.emod_lt_of_pos (many*u) (show 0 < p by omega)
 have d:=Int.dvd_of_emod_eq_zero hu
 have cd:p∣many*u-many*u%p:=Int.dvd_self_sub_emod
 have dv:p∣many-(many*u%p)*r:=by
  have a1:p∣many*(r*u-1):=Int.dvd_mul_of_dvd_right d
  have a2:p∣(many*u-many*u%p)*r:=Int.dvd_mul_of_dvd_left cd
  have:many-(many*u%p)*r=(many*u-many*u%p)*r-many*(r*u-1):=by
   rw[Int.sub_mul,Int.mul_sub,Int.mul_one,Int.mul_assoc,Int.mul_comm u r];omega
  rw[this];exact Int.dvd_sub a2 a1
 refine⟨Int.emod_eq_zero_of_dvd dv,?_⟩
 rw[can2]
 constructor
 ·intro l0
  refine⟨(many-(many*u%p)*r)/p,many*u%p,Int.ediv_nonneg l0 (by omega),c0,?_⟩
  rw[Int.ediv_mul_cancel dv];omega
 ·rintro⟨a,b,a0,b0,e⟩
  have eb:many*u%p=b%p:=by
   refine Int.emod_eq_emod_iff_emod_sub_eq_zero.mpr (Int.emod_eq_zero_of_dvd ?_)
   have a1:p∣b*(r*u-1):=Int.dvd_mul_of_dvd_right d
   have a2:p∣a*p*u:=Int.dvd_mul_of_dvd_left (Int.dvd_mul_left _ _)
   have:many*u-b=a*p*u+b*(r*u-1):=by
    rw[← e,Int.add_mul,Int.mul_sub,Int.mul_one,Int.mul_assoc b r u];omega
   rw[this];exact Int.dvd_add a2 a1
  have le:b%p≤b:=by
   have:=Int.emod_add_mul_ediv b p
   have:=Int.mul_nonneg (show 0≤p by omega) (Int.ediv_nonneg b0 (show 0≤p by omega))
   omega
  have:=Int.mul_le_mul_of_nonneg_right le (show 0≤r by omega)
  have:=Int.mul_nonneg a0 (show 0≤p by omega)
  rw[eb]
  omega
theorem parts_sub {n:Int}{ps qs:List (Int×Int)}(h:Parts n ps)(s:qs.Sublist ps):Parts (Prd qs) qs:=⟨rfl,fun x hx=>h.row x (s.subset hx),h.srt.sublist s⟩
theorem Prd_app:∀ a b:List (Int×Int),Prd (a ++ b)=Prd a*Prd b
 | [],b=>by simp [Prd]
 | x::a,b=>by simp only [List.cons_append,Prd];rw[Prd_app a b,Int.mul_assoc]
theorem row_no {x:Int×Int}(hx:Row x){qs:List (Int×Int)}(hq:∀ y∈qs,Row y)(ne:∀ y∈qs,y.1≠x.1):¬ x.1∣Prd qs:=fun d=>by
 obtain⟨y,hy,e⟩:=Pt.zBp hx.pr qs hq d
 exact ne y hy e
theorem G_pr {p r:Int}(hp:Prm p)(hr:Prm r)(ne:¬ p=r):Eh.G r p=1:=by
 unfold Eh.G
 show ((Int.gcd r p:Nat):Int)=1
 have nd:¬ p∣r:=fun d=>ne (Pt.prm_dvd hp hr d)
 have:=Pt.copr hp nd
 have e:Int.gcd r p=1:=by rw[Int.gcd_comm];exact this
 rw[e];rfl
end Ps
set_option linter.all false
namespace Rg
def rv (n:Int)(t:Int×Int×Int)(x:Int):Int:=if (x-t.2.1)%(n/t.1)=0 then t.2.2 else 0
def rvs (n:Int)(rows:List (Int×Int×Int))(x:Int):Int:=(rows.map fun t=>rv n t x).sum
theorem rvs_snoc (n:Int)(rows:List (Int×Int×Int))(t:Int×Int×Int)(x:Int):rvs n (rows ++ [t]) x=rvs n rows x+rv n t x:=by
 unfold rvs;rw[List.map_append,List.sum_append];simp
theorem lay0 {n st:Nat}(hn:0 < n)(hst:0 < st)(hole many:Int)(a:List Int):∀ x:Int,Ld.at' a x=Ld.at' a x+(if (x-hole)%st=0∧(x%n)/st < ((0:Nat):Int) then many else 0):=fun x=>by
 rw[if_neg,Int.add_zero]
 rintro⟨_,z⟩
 have:=Int.ediv_nonneg (Int.emod_nonneg x (show (n:Int)≠0 by omega)) (show (0:Int)≤st by omega)
 omega
theorem lay1 {n st p i:Nat}(hst:0 < st)(hnp:n=p*st)(hi:i < p){hole many:Int}{a b:List Int}(hb:b.length=n)
  (h:∀ x:Int,Ld.at' b x=Ld.at' a x+(if (x-hole)%st=0∧(x%n)/st < (i:Int) then many else 0)) :
  0≤hole%st+i*st∧hole%st+i*st < (n:Int)∧∀ x:Int,Ld.at' (b.set (hole%st+i*st).toNat (Ld.at' b (hole%st+i*st)+many)) x=Ld.at' a x+(if (x-hole)%st=0∧(x%n)/st < ((i+1:Nat):Int) then many else 0):=by
 have l0:=Int.emod_nonneg hole (show (st:Int)≠0 by omega)
 have l1:=Int.emod_lt_of_pos hole (show (0:Int) < st by omega)
 have hn:0 < n:=by rw[hnp];exact Nat.mul_pos (by omega) hst
 have is0:(0:Int)≤(i:Int)*st:=Int.mul_nonneg (by omega) (by omega)
 have is1:((i:Int)+1)*st≤n:=by
  rw[hnp,Int.natCast_mul]
  exact Int.mul_le_mul_of_nonneg_right (by omega) (by omega)
 rw[Int.add_mul,Int.one_mul] at is1
 have y0:0≤hole%st+i*st:=by omega
 have y1:hole%st+i*st < (n:Int):=by omega
 have ym:(hole%st+i*st)%n=hole%st+i*st:=Int.emod_eq_of_lt y0 y1
 have sn:(st:Int)∣n:=⟨p,by rw[hnp,Int.natCast_mul,Int.mul_comm]⟩
 have ys:(hole%st+i*st)/st=i:=by rw[Int.add_mul_ediv_right _ _ (by omega),Int.ediv_eq_zero_of_lt l0 l1,Int.zero_add]
 refine⟨y0,y1,fun x=>?_⟩
 have e:=Ld.zFu hb hn (hole%st+i*st) (Ld.at' b (hole%st+i*st)+many) x
 rw[ym] at e
 rw[e]
 by_cases c:x%n=hole%st+i*st
 ·have c1:(x-hole)%st=0:=by
   have:x%st=hole%st:=by
    rw[← Int.emod_emod_of_dvd x sn,c,Int.add_mul_emod_self_right,Int.emod_emod_of_dvd _ (Int.dvd_refl _)]
   rw[Int.sub_emod,this];simp
  rw[if_pos c,if_pos ⟨c1,by rw[c,ys];omega⟩]
  have ex:Ld.at' b (hole%st+i*st)=Ld.at' b x:=Ld.vM hb _ _ (by rw[ym,c])
  rw[ex,h,if_neg]
  ·omega
  ·rintro⟨_,z⟩
   rw[c,ys] at z;omega
 ·rw[if_neg c,h]
  by_cases d:(x-hole)%st=0∧(x%n)/st < (i:Int)
  ·rw[if_pos d,if_pos ⟨d.1,by have:=d.2;omega⟩]
  ·rw[if_neg d,if_neg]
   rintro⟨z1,z2⟩
   have zi:(x%n)/st=i:=by
    rcases Int.lt_or_le ((x%n)/st) i with w | w
    ·exact absurd ⟨z1,w⟩ d
    ·omega
   have zm:(x%n)%st=hole%st:=by
    rw[Int.emod_emod_of_dvd x sn]
    have:=Int.emod_eq_emod_iff_emod_sub_eq_zero.mpr z1
    exact this
   have:=Int.emod_add_mul_ediv (x%n) st
   rw[zi,zm,Int.mul_comm] at this
   exact c this.symm
theorem lay2 {n st p:Nat}(hst:0 < st)(hp:0 < p)(hnp:n=p*st){hole many:Int}{a b:List Int}
  (h:∀ x:Int,Ld.at' b x=Ld.at' a x+(if (x-hole)%st=0∧(x%n)/st < (p:Int) then many else 0)):∀ x:Int,Ld.at' b x=Ld.at' a x+(if (x-hole)%st=0 then many else 0):=fun x=>by
 rw[h]
 have hn:0 < n:=by rw[hnp];exact Nat.mul_pos hp hst
 have lt:(x%n)/st < (p:Int):=by
  refine Int.ediv_lt_of_lt_mul (by omega) ?_
  have:=Int.emod_lt_of_pos x (show (0:Int) < n by omega)
  rw[hnp,Int.natCast_mul] at this ⊢
  exact this
 by_cases c:(x-hole)%st=0
 ·rw[if_pos ⟨c,lt⟩,if_pos c]
 ·rw[if_neg (fun z=>c z.1),if_neg c]
theorem cnt_ring {n st p:Nat}(hst:0 < st)(hp:0 < p)(hnp:n=p*st)(hole:Int):hole%st < (n:Int)∧(((n:Int)-hole%st-1)/st+1).toNat=p:=by
 have l0:=Int.emod_nonneg hole (show (st:Int)≠0 by omega)
 have l1:=Int.emod_lt_of_pos hole (show (0:Int) < st by omega)
 have e:(n:Int)=p*st:=by rw[hnp,Int.natCast_mul]
 have s1:(st:Int)≤n:=by rw[e];have:=Int.mul_le_mul_of_nonneg_right (show (1:Int)≤p by omega) (show (0:Int)≤st by omega);omega
 refine⟨by omega,?_⟩
 have q:((n:Int)-hole%st-1)/st=p-1:=by
  have r:(n:Int)-hole%st-1=(st-1-hole%st)+(p-1)*st:=by rw[Int.sub_mul,Int.one_mul,e];omega
  rw[r,Int.add_mul_ediv_right _ _ (by omega),Int.ediv_eq_zero_of_lt (by omega) (by omega),Int.zero_add]
 rw[q];omega
theorem w5 {n:Nat}{p:Int}(hn:1≤n)(hp:2≤p)(d:p∣n):∃ st:Nat,(n:Int)/p=st∧0 < st∧n=p.toNat*st∧p.toNat≤n:=by
 obtain⟨e,he⟩:=d
 have e1:1≤e:=by
  rcases Int.lt_or_le e 1 with z | z
  ·have:=Int.mul_le_mul_of_nonneg_left (show e≤0 by omega) (show 0≤p by omega);omega
  ·exact z
 have q:(n:Int)/p=e:=by rw[he];exact Int.mul_ediv_cancel_left _ (by omega)
 have f:n=p.toNat*e.toNat:=by
  have:((p.toNat*e.toNat:Nat):Int)=p*e:=by rw[Int.natCast_mul,Int.toNat_of_nonneg (by omega),Int.toNat_of_nonneg (by omega)]
  omega
 exact⟨e.toNat,by rw[q,Int.toNat_of_nonneg (by omega)],by omega,f,by rw[f];exact Nat.le_mul_of_pos_right _ (by omega)⟩
end Rg
namespace Rg
theorem own0 {n st:Nat}(hn:0 < n)(hst:0 < st)(hole many:Int)(a:List Int):∀ x:Int,Ld.at' a x=Ld.at' a x+(if (x-hole)%st=0∧((x-hole)%n)/st < ((0:Nat):Int) then many else 0):=fun x=>by
 rw[if_neg,Int.add_zero]
 rintro⟨_,z⟩
 have:=Int.ediv_nonneg (Int.emod_nonneg (x-hole) (show (n:Int)≠0 by omega)) (show (0:Int)≤st by omega)
 omega
theorem own1 {n st p i:Nat}(hst:0 < st)(hnp:n=p*st)(hi:i < p){hole many:Int}{a b:List Int}(hb:b.length=n)
  (h:∀ x:Int,Ld.at' b x=Ld.at' a x+(if (x-hole)%st=0∧((x-hole)%n)/st < (i:Int) then many else 0)) :
  ∀ x:Int,Ld.at' (b.set ((hole+i*st)%n).toNat (Ld.at' b (hole+i*st)+many)) x=Ld.at' a x+(if (x-hole)%st=0∧((x-hole)%n)/st < ((i+1:Nat):Int) then many else 0):=fun x=>by
 have hn:0 < n:=by rw[hnp];exact Nat.mul_pos (by omega) hst
 have is0:(0:Int)≤(i:Int)*st:=Int.mul_nonneg (by omega) (by omega)
 have is1:((i:Int)+1)*st≤n:=by
  rw[hnp,Int.natCast_mul]
  exact Int.mul_le_mul_of_nonneg_right (by omega) (by omega)
 rw[Int.add_mul,Int.one_mul] at is1
 have ism:((i:Int)*st)%n=i*st:=Int.emod_eq_of_lt is0 (by omega)
 have sn:(st:Int)∣n:=⟨p,by rw[hnp,Int.natCast_mul,Int.mul_comm]⟩
 rw[Ld.zFu hb hn]
 by_cases c:x%n=(hole+i*st)%n
 ·have d:(x-hole)%n=i*st:=by rw[Int.sub_emod,c,← Int.sub_emod,show hole+(i:Int)*st-hole=i*st by omega,ism]
  have d1:(x-hole)%st=0:=by rw[← Int.emod_emod_of_dvd _ sn,d,Int.mul_emod_left]
  have d2:((x-hole)%n)/st=i:=by rw[d,Int.mul_ediv_cancel _ (by omega)]
  rw[if_pos c,if_pos ⟨d1,by rw[d2];omega⟩,← Ld.vM hb x _ c,h,if_neg]
  ·omega
  ·rintro⟨_,z⟩;rw[d2] at z;omega
 ·rw[if_neg c,h]
  by_cases d:(x-hole)%st=0∧((x-hole)%n)/st < (i:Int)
  ·rw[if_pos d,if_pos ⟨d.1,by have:=d.2;omega⟩]
  ·rw[if_neg d,if_neg]
   rintro⟨z1,z2⟩
   have zi:((x-hole)%n)/st=i:=by
    rcases Int.lt_or_le (((x-hole)%n)/st) i with w | w
    ·exact absurd ⟨z1,w⟩ d
    ·omega
   have zm:((x-hole)%n)%st=0:=by rw[Int.emod_emod_of_dvd _ sn];exact z1
   have e:=Int.emod_add_mul_ediv ((x-hole)%n) st
   rw[zi,zm,Int.zero_add,Int.mul_comm] at e
   refine c ?_
   have:((x-hole)%n+hole)%n=(i*st+hole)%n:=by rw[e]
   rw[Int.emod_add_emod,show x-hole+hole=x by omega,Int.add_comm ((i:Int)*st)] at this
   exact this
theorem own2 {n st p:Nat}(hst:0 < st)(hp:0 < p)(hnp:n=p*st){hole many:Int}{a b:List Int}
  (h:∀ x:Int,Ld.at' b x=Ld.at' a x+(if (x-hole)%st=0∧((x-hole)%n)/st < (p:Int) then many else 0)):∀ x:Int,Ld.at' b x=Ld.at' a x+(if (x-hole)%st=0 then many else 0):=fun x=>by
 rw[h]
 have hn:0 < n:=by rw[hnp];exact Nat.mul_pos hp hst
 have lt:((x-hole)%n)/st < (p:Int):=by
  refine Int.ediv_lt_of_lt_mul (by omega) ?_
  have:=Int.emod_lt_of_pos (x-hole) (show (0:Int) < n by omega)
  rw[hnp,Int.natCast_mul] at this ⊢
  exact this
 by_cases c:(x-hole)%st=0
 ·rw[if_pos ⟨c,lt⟩,if_pos c]
 ·rw[if_neg (fun z=>c z.1),if_neg c]
end Rg
set_option linter.all false
namespace Rt
open Pt (Parts)
structure Pc (n:Nat)(p q u:Int):Prop where
 n1:1≤n
 p2:2≤p
 q2:1≤q
 pq:p∣q
 qn:q∣(n:Int)
 le:((n:Int)/q*u-1)%q=0
theorem Pc.mk' {n:Nat}{ps:List (Int×Int)}(hn:1≤n)(hp:Parts n ps){x:Int×Int}(hx:x∈ps){u:Int}(hu:((n:Int)/x.2*u-1)%x.2=0):Pc n x.1 x.2 u:=by
 obtain⟨m,e,e',_,q2,d,_⟩:=Rs.wS hp hx
 exact⟨hn,(hp.row x hx).pr.1,by omega,d,⟨m,e⟩,hu⟩
section
variable {n:Nat}{p q u:Int}
def top (p q u k:Int):Int:=(k*u%q)/(q/p)
theorem Pc.m (h:Pc n p q u):∃ m,q=p*m∧q/p=m∧1≤m:=by
 obtain⟨m,e⟩:=h.pq
 have hp:=h.p2
 have hq:=h.q2
 refine⟨m,e,by rw[e];exact Int.mul_ediv_cancel_left _ (by omega),?_⟩
 rcases Int.lt_or_le m 1 with z | z
 ·have:=Int.mul_le_mul_of_nonneg_left (show m≤0 by omega) (show 0≤p by omega);omega
 ·exact z
theorem Pc.cof (h:Pc n p q u):∃ c,(n:Int)=q*c∧(n:Int)/q=c∧(n:Int)/p=c*(q/p):=by
 obtain⟨c,e⟩:=h.qn
 obtain⟨m,em,em',m1⟩:=h.m
 have hp:=h.p2
 have hq:=h.q2
 refine⟨c,e,by rw[e];exact Int.mul_ediv_cancel_left _ (by omega),?_⟩
 rw[em',e,em,Int.mul_assoc,Int.mul_ediv_cancel_left _ (by omega),Int.mul_comm]
theorem Pc.step (h:Pc n p q u)(k t:Int):((k+t*((n:Int)/p))*u)%q=(k*u+t*(q/p))%q:=by
 obtain⟨c,e,e1,e2⟩:=h.cof
 have d:q∣c*u-1:=by have:=Int.dvd_of_emod_eq_zero h.le;rwa [e1] at this
 refine Int.emod_eq_emod_iff_emod_sub_eq_zero.mpr (Int.emod_eq_zero_of_dvd ?_)
 rw[e2]
 have:(k+t*(c*(q/p)))*u-(k*u+t*(q/p))=t*(q/p)*(c*u-1):=by
  rw[Int.add_mul,Int.mul_sub,Int.mul_one]
  have:t*(c*(q/p))*u=t*(q/p)*(c*u):=by
   rw[Int.mul_assoc,Int.mul_assoc t (q/p),Int.mul_comm c (q/p),Int.mul_assoc]
  omega
 rw[this]
 exact Int.dvd_mul_of_dvd_right d
theorem Pc.top_lt (h:Pc n p q u)(k:Int):0≤top p q u k∧top p q u k < p:=by
 obtain⟨m,em,em',m1⟩:=h.m
 have hq:=h.q2
 unfold top
 rw[em']
 have a:=Int.emod_nonneg (k*u) (show q≠0 by omega)
 have b:=Int.emod_lt_of_pos (k*u) (show 0 < q by omega)
 refine⟨Int.ediv_nonneg a (by omega),Int.ediv_lt_of_lt_mul (by omega) ?_⟩
 rw[← em];exact b
theorem Pc.top_step (h:Pc n p q u)(k t:Int):top p q u (k+t*((n:Int)/p))=(top p q u k+t)%p:=by
 obtain⟨m,em,em',m1⟩:=h.m
 have hq:=h.q2
 have hp:=h.p2
 unfold top
 rw[h.step,em']
 have r0:=Int.emod_nonneg (k*u) (show q≠0 by omega)
 have e1:(k*u+t*m)%q=(k*u%q+t*m)%q:=by rw[Int.emod_add_emod]
 rw[e1]
 generalize k*u%q=r
 have rd:=Int.emod_add_mul_ediv r m
 have s0:=Int.emod_nonneg r (show m≠0 by omega)
 have s1:=Int.emod_lt_of_pos r (show 0 < m by omega)
 generalize hs:r%m=s at rd s0 s1
 generalize hT:r/m=T at rd
 have er:r+t*m=s+m*(T+t):=by rw[← rd,Int.mul_add,Int.mul_comm t m];omega
 rw[er]
 have td:=Int.emod_add_mul_ediv (T+t) p
 have v0:=Int.emod_nonneg (T+t) (show p≠0 by omega)
 have v1:=Int.emod_lt_of_pos (T+t) (show 0 < p by omega)
 generalize (T+t)%p=v at td v0 v1
 generalize (T+t)/p=w at td
 have e2:s+m*(T+t)=(s+m*v)+q*w:=by
  rw[← td,Int.mul_add,em,← Int.mul_assoc m p w,Int.mul_comm m p];omega
 rw[e2,Int.add_mul_emod_self_left]
 have mv0:0≤m*v:=Int.mul_nonneg (by omega) v0
 have mv1:m*v+m≤q:=by
  have:=Int.mul_le_mul_of_nonneg_left (show v+1≤p by omega) (show 0≤m by omega)
  rw[Int.mul_add,Int.mul_one,Int.mul_comm m p,← em] at this
  exact this
 rw[Int.emod_eq_of_lt (by omega) (by omega),Int.add_mul_ediv_left _ _ (by omega),Int.ediv_eq_zero_of_lt s0 s1,Int.zero_add]
def dl (n:Nat)(p q u k:Int):Int:=k+(p-1-top p q u k)*((n:Int)/p)
theorem Pc.top_dl (h:Pc n p q u)(k:Int):top p q u (dl n p q u k)=p-1:=by
 have t:=h.top_lt k
 unfold dl
 rw[h.top_step,show top p q u k+(p-1-top p q u k)=p-1 by omega,Int.emod_eq_of_lt (by omega) (by omega)]
theorem dl_top {k:Int}(h:top p q u k=p-1):dl n p q u k=k:=by
 unfold dl
 rw[h];simp
theorem Pc.dl_step (h:Pc n p q u)(k t:Int):(dl n p q u (k+t*((n:Int)/p)))%n=(dl n p q u k)%n:=by
 unfold dl
 rw[h.top_step]
 have hp:=h.p2
 have td:=Int.emod_add_mul_ediv (top p q u k+t) p
 generalize (top p q u k+t)%p=v at td
 generalize (top p q u k+t)/p=w at td
 have np:p*((n:Int)/p)=n:=Int.mul_ediv_cancel' (Int.dvd_trans h.pq h.qn)
 have e:k+t*((n:Int)/p)+(p-1-v)*((n:Int)/p)=k+(p-1-top p q u k)*((n:Int)/p)+n*w:=by
  have f:t+(p-1-v)=(p-1-top p q u k)+p*w:=by omega
  rw[Int.add_assoc,← Int.add_mul,f,Int.add_mul,Int.mul_comm p w,Int.mul_assoc,np,Int.mul_comm w]
  omega
 rw[e,Int.add_mul_emod_self_left]
def E (n:Nat)(p q u:Int)(f:Int→Int):Int→Int:=fun k=>f k-f (dl n p q u k)
theorem Pc.E_per (h:Pc n p q u){f:Int→Int}(hf:Ld.Per n f):Ld.Per n (E n p q u f):=fun x y e=>by
 unfold E
 rw[hf x y e]
 congr 1
 refine hf _ _ ?_
 have et:top p q u x=top p q u y:=by
  unfold top
  have:(x*u)%q=(y*u)%q:=by
   have d:q∣x*u-y*u:=by
    rw[← Int.sub_mul]
    exact Int.dvd_mul_of_dvd_left (Int.dvd_trans h.qn (Int.dvd_of_emod_eq_zero (Int.emod_eq_emod_iff_emod_sub_eq_zero.mp e)))
   exact Int.emod_eq_emod_iff_emod_sub_eq_zero.mpr (Int.emod_eq_zero_of_dvd d)
  rw[this]
 unfold dl
 rw[et]
 exact Ld.zAh _ e
theorem E_add (f g:Int→Int)(k:Int):E n p q u (fun x=>f x+g x) k=E n p q u f k+E n p q u g k:=by unfold E;dsimp only;omega
theorem E_zero {f:Int→Int}(h:∀ k,f k=0)(k:Int):E n p q u f k=0:=by unfold E;rw[h,h];rfl
theorem Pc.E_drop (h:Pc n p q u)(f:Int→Int){k:Int}(t:top p q u k=p-1):E n p q u f k=0:=by unfold E;rw[dl_top t];omega
def Inv (n:Nat)(p:Int)(f:Int→Int):Prop:=∀ k t:Int,f (k+t*((n:Int)/p))=f k
theorem Pc.E_inv (h:Pc n p q u){f:Int→Int}(hf:Inv n p f)(k:Int):E n p q u f k=0:=by
 unfold E dl
 rw[hf];omega
end
section
variable {n:Nat}{p q u p' q' u':Int}
theorem jX (d:q∣(n:Int)/p')(k t:Int):top p q u (k+t*((n:Int)/p'))=top p q u k:=by
 unfold top
 congr 1
 refine Int.emod_eq_emod_iff_emod_sub_eq_zero.mpr (Int.emod_eq_zero_of_dvd ?_)
 rw[Int.add_mul,show k*u+t*((n:Int)/p')*u-k*u=t*((n:Int)/p')*u by omega]
 exact Int.dvd_mul_of_dvd_left (Int.dvd_mul_of_dvd_right d)
theorem E_keeps_inv (d:q∣(n:Int)/p'){f:Int→Int}(hf:Inv n p' f):Inv n p' (E n p q u f):=fun k t=>by
 unfold E dl
 rw[jX d,hf]
 congr 1
 have:k+t*((n:Int)/p')+(p-1-top p q u k)*((n:Int)/p)=k+(p-1-top p q u k)*((n:Int)/p)+t*((n:Int)/p'):=by omega
 rw[this,hf]
theorem E_keeps_zero (d:q'∣(n:Int)/p){f:Int→Int}(hf:∀ k,top p' q' u' k=p'-1→f k=0)(k:Int)(t:top p' q' u' k=p'-1):E n p q u f k=0:=by
 unfold E dl
 rw[hf k t,hf _ (by rw[jX d];exact t)]
 rfl
end
def R (n:Nat):List ((Int×Int)×Int)→(Int→Int)→Int→Int
 | [],f=>f
 | z::l,f=>R n l (E n z.1.1 z.1.2 z.2 f)
structure Ld' (n:Nat)(ps:List (Int×Int))(l:List ((Int×Int)×Int)):Prop where
 n1:1≤n
 hp:Parts n ps
 map:l.map Prod.fst=ps
 le:∀ z∈l,((n:Int)/z.1.2*z.2-1)%z.1.2=0
theorem Ld'.pc {n:Nat}{ps:List (Int×Int)}{l:List ((Int×Int)×Int)}(h:Ld' n ps l){z:(Int×Int)×Int}(hz:z∈l):Pc n z.1.1 z.1.2 z.2 :=
 Pc.mk' h.n1 h.hp (by rw[← h.map];exact List.mem_map.mpr ⟨z,hz,rfl⟩) (h.le z hz)
theorem cross' {n:Nat}{ps:List (Int×Int)}(hp:Parts n ps){x y:Int×Int}(hx:x∈ps)(hy:y∈ps)(ne:x.1≠y.1):x.2∣(n:Int)/y.1:=by
 have c:=Rs.cross hp hx hy ne
 obtain⟨m,e,e',_,q2,⟨t,d⟩,_⟩:=Rs.wS hp hy
 have p2:=(hp.row y hy).pr.1
 have:(n:Int)/y.1=(n:Int)/y.2*t:=by
  rw[e',e,d,Int.mul_assoc,Int.mul_ediv_cancel_left _ (by omega),Int.mul_comm]
 rw[this]
 exact Int.dvd_mul_of_dvd_left c
theorem R_add (n:Nat):∀ (l:List ((Int×Int)×Int))(f g:Int→Int)(k:Int),R n l (fun x=>f x+g x) k=R n l f k+R n l g k
 | [],f,g,k=>rfl
 | z::l,f,g,k=>by
  simp only [R]
  have:E n z.1.1 z.1.2 z.2 (fun x=>f x+g x)=fun x=>E n z.1.1 z.1.2 z.2 f x+E n z.1.1 z.1.2 z.2 g x:=funext fun x=>E_add f g x
  rw[this,R_add n l]
theorem R_zero (n:Nat):∀ (l:List ((Int×Int)×Int)){f:Int→Int},(∀ k,f k=0)→∀ k,R n l f k=0
 | [],f,h,k=>h k
 | z::l,f,h,k=>R_zero n l (fun k=>E_zero h k) k
theorem R_inv {n:Nat}{ps:List (Int×Int)}:∀ {l:List ((Int×Int)×Int)}{x:Int×Int},(∀ z∈l,Pc n z.1.1 z.1.2 z.2)→(∀ z∈l,z.1=x∨z.1.2∣(n:Int)/x.1)→(∃ z∈l,z.1=x)→∀ {f:Int→Int},Inv n x.1 f→∀ k,R n l f k=0
 | [],x,_,_,⟨z,hz,_⟩,f,hf,k=>by cases hz
 | z::l,x,hpc,hc,hex,f,hf,k=>by
  simp only [R]
  by_cases e:z.1=x
  ·refine R_zero n l (fun k=>(hpc z List.mem_cons_self).E_inv ?_ k) k
   rw[e];exact hf
  ·have d:z.1.2∣(n:Int)/x.1:=(hc z List.mem_cons_self).resolve_left e
   refine R_inv (ps:=ps) (fun y hy=>hpc y (List.mem_cons_of_mem _ hy)) (fun y hy=>hc y (List.mem_cons_of_mem _ hy)) ?_ (E_keeps_inv d hf) k
   obtain⟨y,hy,ey⟩:=hex
   rcases List.mem_cons.mp hy with w | w
   ·exact absurd (w▸ey) e
   ·exact⟨y,w,ey⟩
theorem Ld'.kill {n:Nat}{ps:List (Int×Int)}{l:List ((Int×Int)×Int)}(h:Ld' n ps l){x:Int×Int}(hx:x∈ps){f:Int→Int}(hf:Inv n x.1 f)(k:Int):R n l f k=0:=by
 have mem:∀ z∈l,z.1∈ps:=fun z hz=>by rw[← h.map];exact List.mem_map.mpr ⟨z,hz,rfl⟩
 refine R_inv (ps:=ps) (x:=x) (fun z hz=>h.pc hz) (fun z hz=>?_) ?_ hf k
 ·by_cases e:z.1=x
  ·exact .inl e
  ·refine .inr (cross' h.hp (mem z hz) hx fun w=>e ?_)
   -- two parts of one prime are the same
   rcases List.mem_iff_getElem.mp (mem z hz) with ⟨i,hi,ei⟩
   rcases List.mem_iff_getElem.mp hx with ⟨j,hj,ej⟩
   have pw:=List.pairwise_iff_getElem.mp h.hp.srt
   rcases Nat.lt_trichotomy i j with g | g | g
   ·have:=pw i j hi hj g;rw[ei,ej] at this;omega
   ·subst g;rw[← ei,ej]
   ·have:=pw j i hj hi g;rw[ei,ej] at this;omega
 ·rw[← h.map] at hx
  obtain⟨z,hz,e⟩:=List.mem_map.mp hx
  exact⟨z,hz,e⟩
theorem rv_inv (n:Nat)(t:Int×Int×Int)(hp:t.1∣(n:Int)):Inv n t.1 (Rg.rv n t):=fun k s=>by
 unfold Rg.rv
 have:(k+s*((n:Int)/t.1)-t.2.1)%((n:Int)/t.1)=(k-t.2.1)%((n:Int)/t.1):=by
  rw[show k+s*((n:Int)/t.1)-t.2.1=k-t.2.1+s*((n:Int)/t.1) by omega,Int.add_mul_emod_self_right]
 rw[this]
theorem Ld'.kill_rows {n:Nat}{ps:List (Int×Int)}{l:List ((Int×Int)×Int)}(h:Ld' n ps l):∀ {rows:List (Int×Int×Int)},(∀ t∈rows,t.1∈ps.map Prod.fst)→∀ k,R n l (Rg.rvs n rows) k=0
 | [],_,k=>R_zero n l (fun _=>rfl) k
 | t::r,hm,k=>by
  have e:Rg.rvs n (t::r)=fun x=>Rg.rv n t x+Rg.rvs n r x:=funext fun x=>by unfold Rg.rvs;rw[List.map_cons,List.sum_cons]
  rw[e,R_add,h.kill_rows (rows:=r) fun y hy=>hm y (List.mem_cons_of_mem _ hy)]
  obtain⟨x,hx,ex⟩:=List.mem_map.mp (hm t List.mem_cons_self)
  have dv:t.1∣(n:Int):=by rw[← ex];exact ((Pt.vG h.hp x).mp hx).2.1
  rw[h.kill hx (by rw[ex];exact rv_inv n t dv)];rfl
end Rt
set_option linter.all false
namespace Rt
open Pt (Parts)
theorem two_pow:∀ (l:List (Int×Int)),(∀ x∈l,Pt.Row x)→(2:Int)^l.length≤Pt.Prd l
 | [],_=>by simp [Pt.Prd]
 | x::r,h=>by
  have a:=two_pow r fun y hy=>h y (List.mem_cons_of_mem _ hy)
  have b:=Pt.zBn (h x List.mem_cons_self)
  have c:=Pt.zAi r fun y hy=>h y (List.mem_cons_of_mem _ hy)
  simp only [Pt.Prd,List.length_cons]
  rw[Int.pow_succ,Int.mul_comm]
  exact Int.mul_le_mul (by omega) a (Int.pow_nonneg (by omega)) (by omega)
theorem few_parts {n:Nat}{ps:List (Int×Int)}(hp:Parts n ps)(hn:n≤420):ps.length≤8:=by
 rcases Nat.lt_or_ge 8 ps.length with z | z
 ·have a:=two_pow ps hp.row
  rw[hp.prd] at a
  have b:(2:Int)^9≤2^ps.length:=Pt.pow_mono (p:=2) (by decide) z
  have c:(2:Int)^9=512:=by decide
  omega
 ·exact z
section
variable {n:Nat}{p q u:Int}
theorem Pc.top_iff (h:Pc n p q u)(k:Int):(k*u%q ≥ q-q/p)↔top p q u k=p-1:=by
 obtain⟨m,em,em',m1⟩:=h.m
 have hq:=h.q2
 have hp:=h.p2
 have t:=h.top_lt k
 unfold top at t ⊢
 rw[em'] at t ⊢
 have r1:=Int.emod_lt_of_pos (k*u) (show 0 < q by omega)
 have rd:=Int.emod_add_mul_ediv (k*u%q) m
 have s0:=Int.emod_nonneg (k*u%q) (show m≠0 by omega)
 have s1:=Int.emod_lt_of_pos (k*u%q) (show 0 < m by omega)
 generalize k*u%q=r at *
 generalize r/m=T at *
 constructor
 ·intro g
  rcases Int.lt_or_le T (p-1) with z | z
  ·have:=Int.mul_le_mul_of_nonneg_left (show T+1≤p-1 by omega) (show 0≤m by omega)
   rw[Int.mul_add,Int.mul_one,Int.mul_sub,Int.mul_one,Int.mul_comm m p,← em] at this
   omega
  ·omega
 ·intro g
  rw[g,Int.mul_sub,Int.mul_one,Int.mul_comm m p,← em] at rd
  omega
theorem Pc.top_per (h:Pc n p q u){x y:Int}(e:x%n=y%n):top p q u x=top p q u y:=by
 unfold top
 have:(x*u)%q=(y*u)%q:=by
  have d:q∣x*u-y*u:=by
   rw[← Int.sub_mul]
   exact Int.dvd_mul_of_dvd_left (Int.dvd_trans h.qn (Int.dvd_of_emod_eq_zero (Int.emod_eq_emod_iff_emod_sub_eq_zero.mp e)))
  exact Int.emod_eq_emod_iff_emod_sub_eq_zero.mpr (Int.emod_eq_zero_of_dvd d)
 rw[this]
def drs (p q u:Int):Nat→List Int
 | 0=>[]
 | i+1=>drs p q u i ++ (if top p q u i=p-1 then [(i:Int)] else [])
theorem zBo {p q u:Int}:∀ {i:Nat}{k:Int},k∈drs p q u i↔0≤k∧k < i∧top p q u k=p-1
 | 0,k=>⟨fun h=>(nomatch h),fun h=>by omega⟩
 | i+1,k=>by
  unfold drs
  rw[List.mem_append,zBo]
  constructor
  ·rintro (⟨a,b,c⟩ | h)
   ·exact⟨a,by omega,c⟩
   ·split at h
    ·rename_i e;rw[List.mem_singleton.mp h];exact⟨by omega,by omega,e⟩
    ·cases h
  ·rintro⟨a,b,c⟩
   by_cases z:k=i
   ·subst z;exact .inr (by rw[if_pos c];simp)
   ·exact .inl ⟨a,by omega,c⟩
theorem drs_srt {p q u:Int}:∀ i:Nat,(drs p q u i).Pairwise (· < ·)
 | 0=>List.Pairwise.nil
 | i+1=>by
  unfold drs
  rw[List.pairwise_append]
  refine⟨drs_srt i,by split <;> simp,fun x hx y hy=>?_⟩
  have:=(zBo.mp hx).2.1
  split at hy
  ·rw[List.mem_singleton] at hy;omega
  ·cases hy
theorem drs_len {p q u:Int}:∀ i:Nat,(drs p q u i).length≤i
 | 0=>Nat.le_refl _
 | i+1=>by
  unfold drs
  rw[List.length_append]
  have:=drs_len (p:=p) (q:=q) (u:=u) i
  split <;> simp <;> omega
def D (n:Nat)(p q u k:Int):Int:=dl n p q u k%n
theorem Pc.D_mem (h:Pc n p q u)(k:Int):D n p q u k∈drs p q u n:=by
 have n1:=h.n1
 refine zBo.mpr ⟨Int.emod_nonneg _ (by omega),Int.emod_lt_of_pos _ (by omega),?_⟩
 unfold D
 rw[h.top_per (Int.emod_emod_of_dvd _ (Int.dvd_refl _)),h.top_dl]
theorem Pc.D_iff (h:Pc n p q u){k x:Int}(hk:k∈drs p q u n):(x-k)%((n:Int)/p)=0↔D n p q u x=k:=by
 obtain⟨k0,k1,kt⟩:=zBo.mp hk
 have np:p*((n:Int)/p)=n:=Int.mul_ediv_cancel' (Int.dvd_trans h.pq h.qn)
 have dn:((n:Int)/p)∣n:=⟨p,by rw[Int.mul_comm];exact np.symm⟩
 constructor
 ·intro e
  obtain⟨t,ht⟩:=Int.dvd_of_emod_eq_zero e
  have ex:x=k+t*((n:Int)/p):=by rw[Int.mul_comm];omega
  unfold D
  rw[ex,h.dl_step,dl_top kt,Int.emod_eq_of_lt k0 k1]
 ·intro e
  unfold D at e
  have e2:(dl n p q u x)%((n:Int)/p)=k%((n:Int)/p):=by rw[← e,Int.emod_emod_of_dvd _ dn]
  unfold dl at e2
  rw[Int.add_mul_emod_self_right] at e2
  exact Int.emod_eq_emod_iff_emod_sub_eq_zero.mp e2
theorem rv_neg (n p h m x:Int):Rg.rv n (p,h,-m) x=- Rg.rv n (p,h,m) x:=by
 unfold Rg.rv
 dsimp only
 split <;> simp
structure PI (n:Nat)(p q u:Int)(f:Int→Int)(j:Nat)(b:List Int):Prop where
 len:b.length=n
 at_:∀ x,Ld.at' b x=f x-(if D n p q u x∈(drs p q u n).take j then f (dl n p q u x) else 0)
theorem pi0 {f:Int→Int}{b:List Int}(hb:b.length=n)(h:∀ x,Ld.at' b x=f x):PI n p q u f 0 b:=⟨hb,fun x=>by rw[List.take_zero,if_neg (by simp),Int.sub_zero];exact h x⟩
theorem nodup_at {l:List Int}(h:l.Pairwise (· < ·)){j:Nat}{k:Int}(e:l[j]?=some k):¬ k∈l.take j:=fun m=>by
 obtain⟨i,hi,ei⟩:=List.mem_iff_getElem.mp m
 obtain⟨hj,ej⟩:=List.getElem?_eq_some_iff.mp e
 rw[List.length_take] at hi
 have pw:=List.pairwise_iff_getElem.mp h i j (by omega) hj (by omega)
 rw[List.getElem_take] at ei
 rw[ei,ej] at pw
 omega
theorem Pc.pi_val (h:Pc n p q u){f:Int→Int}{b:List Int}{j:Nat}{k:Int}(pi:PI n p q u f j b)(e:(drs p q u n)[j]?=some k):Ld.at' b k=f k:=by
 have hk:=List.mem_of_getElem? e
 obtain⟨k0,k1,kt⟩:=zBo.mp hk
 have dk:D n p q u k=k:=by unfold D;rw[dl_top kt,Int.emod_eq_of_lt k0 k1]
 rw[pi.at_,dk,if_neg (nodup_at (drs_srt n) e),Int.sub_zero]
theorem zCc {l:List Int}{j:Nat}{k x:Int}(e:l[j]?=some k):x∈l.take (j+1)↔x∈l.take j∨x=k:=by
 rw[Pt.take_snoc e,List.mem_append,List.mem_singleton]
theorem Pc.pi1 (h:Pc n p q u){f:Int→Int}(hf:Ld.Per n f){b b':List Int}{j:Nat}{k:Int}(pi:PI n p q u f j b)(e:(drs p q u n)[j]?=some k)(lb:b'.length=n)
  (hb:∀ x,Ld.at' b' x=Ld.at' b x+Rg.rv n (p,k,-(f k)) x):PI n p q u f (j+1) b':=⟨lb,fun x=>by
 have hk:=List.mem_of_getElem? e
 obtain⟨k0,k1,kt⟩:=zBo.mp hk
 rw[hb,pi.at_]
 unfold Rg.rv
 dsimp only
 by_cases c:D n p q u x=k
 ·rw[if_pos ((h.D_iff hk).mpr c),if_neg (by rw[c];exact nodup_at (drs_srt n) e),if_pos (by rw[zCc e];exact .inr c)]
  have:f (dl n p q u x)=f k:=hf _ _ (by show D n p q u x=_;rw[c,Int.emod_eq_of_lt k0 k1])
  rw[this];omega
 ·rw[if_neg fun z=>c ((h.D_iff hk).mp z)]
  by_cases d:D n p q u x∈(drs p q u n).take j
  ·rw[if_pos d,if_pos (by rw[zCc e];exact .inl d)];omega
  ·rw[if_neg d,if_neg (by rw[zCc e];exact fun z=>z.elim d c)];omega⟩
theorem Pc.pi1z (h:Pc n p q u){f:Int→Int}(hf:Ld.Per n f){b:List Int}{j:Nat}{k:Int}(pi:PI n p q u f j b)(e:(drs p q u n)[j]?=some k)(z:f k=0):PI n p q u f (j+1) b:=by
 refine h.pi1 hf pi e pi.len fun x=>?_
 unfold Rg.rv
 rw[z]
 split <;> simp
theorem Pc.pi_end (h:Pc n p q u){f:Int→Int}{b:List Int}(pi:PI n p q u f (drs p q u n).length b)(x:Int):Ld.at' b x=E n p q u f x:=by
 rw[pi.at_,List.take_length,if_pos (h.D_mem x)];rfl
end
theorem R_snoc (n:Nat):∀ (l:List ((Int×Int)×Int))(z:(Int×Int)×Int)(f:Int→Int),R n (l ++ [z]) f=E n z.1.1 z.1.2 z.2 (R n l f)
 | [],z,f=>rfl
 | y::l,z,f=>by simp only [List.cons_append,R];exact R_snoc n l z _
theorem R_per {n:Nat}:∀ {l:List ((Int×Int)×Int)},(∀ z∈l,Pc n z.1.1 z.1.2 z.2)→∀ {f:Int→Int},Ld.Per n f→Ld.Per n (R n l f)
 | [],_,f,hf=>hf
 | z::l,h,f,hf=>R_per (l:=l) (fun y hy=>h y (List.mem_cons_of_mem _ hy)) ((h z List.mem_cons_self).E_per hf)
structure zAr (n:Nat)(P:Int→Int→Prop)(a b:List Int)(rows:List (Int×Int×Int)):Prop where
 ok:∀ t∈rows,P t.1 t.2.1∧0≤t.2.1∧t.2.1 < n∧¬ t.2.2=0
 nd:(rows.map fun t=>(t.1,t.2.1)).Nodup
 eq:∀ x,Ld.at' a x=Ld.at' b x+Rg.rvs n rows x
theorem zAr.weak {n:Nat}{P Q:Int→Int→Prop}{a b:List Int}{rows:List (Int×Int×Int)}(h:zAr n P a b rows)(w:∀ x y,P x y→Q x y):zAr n Q a b rows :=
 ⟨fun t ht=>let ⟨a,b⟩:=h.ok t ht;⟨w _ _ a,b⟩,h.nd,h.eq⟩
theorem rows0 {n:Nat}{P:Int→Int→Prop}(a:List Int):zAr n P a a []:=⟨fun t h=>(nomatch h),List.nodup_nil,fun x=>by unfold Rg.rvs;simp⟩
theorem zAr.snoc {n:Nat}{P Q:Int→Int→Prop}{a b b':List Int}{rows:List (Int×Int×Int)}{p k m:Int}(h:zAr n P a b rows)(w:∀ x y,P x y→Q x y)(q:Q p k)(no:∀ x y,P x y→¬ (x=p∧y=k))(k0:0≤k)(k1:k < n)(mz:¬ m=0)
  (hb:∀ x,Ld.at' b' x=Ld.at' b x+Rg.rv n (p,k,-m) x):zAr n Q a b' (rows ++ [(p,k,m)]):=by
 refine⟨fun t ht=>?_,?_,fun x=>?_⟩
 ·rcases List.mem_append.mp ht with z | z
  ·obtain⟨a,b⟩:=h.ok t z;exact⟨w _ _ a,b⟩
  ·rw[List.mem_singleton.mp z];exact⟨q,k0,k1,mz⟩
 ·rw[List.map_append,List.nodup_append]
  refine⟨h.nd,by simp,fun x hx y hy e=>?_⟩
  obtain⟨t,ht,et⟩:=List.mem_map.mp hx
  have ey:y=(p,k):=by simpa using hy
  refine no _ _ (h.ok t ht).1 ?_
  rw[e,ey] at et
  exact⟨congrArg Prod.fst et,congrArg Prod.snd et⟩
 ·rw[Rg.rvs_snoc,hb,h.eq,rv_neg];omega
end Rt
set_option linter.all false
namespace Rt
open Pt (Parts)
theorem zDf {n:Nat}{p' q' u':Int}:∀ {l:List ((Int×Int)×Int)},(∀ z∈l,q'∣(n:Int)/z.1.1)→∀ {f:Int→Int},(∀ k,top p' q' u' k=p'-1→f k=0)→∀ k,top p' q' u' k=p'-1→R n l f k=0
 | [],_,f,hf,k,t=>hf k t
 | z::l,h,f,hf,k,t=>zDf (l:=l) (fun y hy=>h y (List.mem_cons_of_mem _ hy)) (fun k t=>E_keeps_zero (h z List.mem_cons_self) hf k t) k t
theorem R_drop {n:Nat}{ps:List (Int×Int)}(hp:Parts n ps):∀ {l:List ((Int×Int)×Int)},(∀ z∈l,Pc n z.1.1 z.1.2 z.2)→(∀ z∈l,z.1∈ps)→l.Pairwise (fun y z=>y.1.1≠z.1.1)→∀ {z:(Int×Int)×Int},z∈l→∀ (f:Int→Int)(k:Int),top z.1.1 z.1.2 z.2 k=z.1.1-1→R n l f k=0
 | [],_,_,_,z,hz,f,k,t=>by cases hz
 | y::l,hpc,hm,nd,z,hz,f,k,t=>by
  have ⟨n1,n2⟩:=List.pairwise_cons.mp nd
  simp only [R]
  rcases List.mem_cons.mp hz with w | w
  ·subst w
   refine zDf (fun x hx=>?_) (fun k t=>(hpc z List.mem_cons_self).E_drop f t) k t
   exact cross' hp (hm z List.mem_cons_self) (hm x (List.mem_cons_of_mem _ hx)) (n1 x hx)
  ·exact R_drop hp (l:=l) (fun x hx=>hpc x (List.mem_cons_of_mem _ hx)) (fun x hx=>hm x (List.mem_cons_of_mem _ hx)) n2 w _ k t
theorem Ld'.nd {n:Nat}{ps:List (Int×Int)}{l:List ((Int×Int)×Int)}(h:Ld' n ps l):l.Pairwise (fun y z=>y.1.1≠z.1.1):=by
 have s:=h.hp.srt
 rw[← h.map,List.pairwise_map] at s
 exact s.imp fun w=>by omega
theorem Ld'.drop {n:Nat}{ps:List (Int×Int)}{l:List ((Int×Int)×Int)}(h:Ld' n ps l){z:(Int×Int)×Int}(hz:z∈l)(f:Int→Int)(k:Int)(t:top z.1.1 z.1.2 z.2 k=z.1.1-1):R n l f k=0 :=
 R_drop h.hp (fun z hz=>h.pc hz) (fun z hz=>by rw[← h.map];exact List.mem_map.mpr ⟨z,hz,rfl⟩) h.nd hz f k t
theorem R_fix {n:Nat}:∀ {l:List ((Int×Int)×Int)},(∀ z∈l,Pc n z.1.1 z.1.2 z.2)→∀ {f:Int→Int},(∀ z∈l,∀ k,top z.1.1 z.1.2 z.2 k=z.1.1-1→f k=0)→R n l f=f
 | [],_,f,_=>rfl
 | z::l,h,f,hf=>by
  simp only [R]
  have e:E n z.1.1 z.1.2 z.2 f=f:=funext fun k=>by
   unfold E
   rw[hf z List.mem_cons_self _ ((h z List.mem_cons_self).top_dl k),Int.sub_zero]
  rw[e]
  exact R_fix (fun y hy=>h y (List.mem_cons_of_mem _ hy)) fun y hy=>hf y (List.mem_cons_of_mem _ hy)
theorem R_gone {n N:Nat}{l':List ((Int×Int)×Int)}{P:Int→Prop} (Φ:(Int→Int)→Int→Int)(add:∀ f g,Φ (fun x=>f x+g x)=fun x=>Φ f x+Φ g x)(zero:∀ x,Φ (fun _=>0) x=0)(kill:∀ (f:Int→Int)(p:Int),Ld.Per n f→P p→Inv n p f→∀ k,R N l' (Φ f) k=0) :
  ∀ {l:List ((Int×Int)×Int)},(∀ z∈l,Pc n z.1.1 z.1.2 z.2)→(∀ z∈l,P z.1.1)→∀ {f:Int→Int},Ld.Per n f→∀ k,R N l' (Φ fun x=>f x-R n l f x) k=0
 | [],_,_,f,_,k=>by
  have:(fun x=>f x-R n [] f x)=fun _=>0:=funext fun x=>by simp [R]
  rw[this]
  exact R_zero N l' zero k
 | z::l,h,hP,f,hf,k=>by
  have pc:=h z List.mem_cons_self
  have e:(fun x=>f x-R n (z::l) f x)=fun x=>f (dl n z.1.1 z.1.2 z.2 x)+(E n z.1.1 z.1.2 z.2 f x-R n l (E n z.1.1 z.1.2 z.2 f) x):=funext fun x=>by
   simp only [R]
   show f x-_=f (dl n z.1.1 z.1.2 z.2 x)+((f x-f (dl n z.1.1 z.1.2 z.2 x))-_)
   omega
  rw[e,add,R_add,R_gone Φ add zero kill (l:=l) (fun y hy=>h y (List.mem_cons_of_mem _ hy)) (fun y hy=>hP y (List.mem_cons_of_mem _ hy)) (pc.E_per hf) k]
  have per:Ld.Per n fun x=>f (dl n z.1.1 z.1.2 z.2 x):=fun x y w=>by
   refine hf _ _ ?_
   unfold dl
   rw[pc.top_per w]
   exact Ld.zAh _ w
  rw[kill _ z.1.1 per (hP z List.mem_cons_self) fun k t=>hf _ _ (pc.dl_step k t)];rfl
def fF (m:Nat)(f:Int→Int)(x:Int):Int:=if x%m=0 then f (x/m) else 0
theorem fF_inv {n m:Nat}(hm:0 < m){p:Int}(hp:0 < p)(pd:p∣(n:Int)){f:Int→Int}(hf:Inv n p f):Inv (m*n) p (fF m f):=fun k t=>by
 have e:((m*n:Nat):Int)/p=m*((n:Int)/p):=by rw[Int.natCast_mul,Int.mul_ediv_assoc _ pd]
 unfold fF
 have e1:(k+t*(((m*n:Nat):Int)/p))=k+m*(t*((n:Int)/p)):=by rw[e,Int.mul_left_comm]
 rw[e1,Int.add_mul_emod_self_left]
 by_cases c:k%m=0
 ·rw[if_pos c,if_pos c,Int.add_mul_ediv_left _ _ (by omega),hf]
 ·rw[if_neg c,if_neg c]
theorem gcop {p:Int}(hp:Pt.Prm p){m:Int}(h:¬ p∣m)(e:Nat):Nat.Coprime (p^e).natAbs m.natAbs:=Rs.cop_pow hp h e
theorem top_fin {n m:Nat}(hm:0 < m)(hn:1≤n){ps ps':List (Int×Int)}(hp:Parts n ps)(hp':Parts ((m*n:Nat):Int) ps'){y:Int×Int}(hy:y∈ps'){u':Int}(hu':(((m*n:Nat):Int)/y.2*u'-1)%y.2=0){k:Int}
  (t:top y.1 y.2 u' (m*k)=y.1-1):∃ x∈ps,∀ u,((n:Int)/x.2*u-1)%x.2=0→top x.1 x.2 u k=x.1-1:=by
 have N1:1≤m*n:=Nat.mul_pos hm hn
 have pc':=Pc.mk' N1 hp' hy hu'
 have row:=hp'.row y hy
 obtain⟨b,hb⟩:=row.pw
 have p2:=row.pr.1
 have iff':=(Pt.vG hp' y).mp hy
 by_cases d:y.1∣(n:Int)
 ·obtain⟨x,hx,ex⟩:=Pt.zBp row.pr ps hp.row (by rw[hp.prd];exact d)
  refine⟨x,hx,fun u hu=>?_⟩
  obtain⟨a,ha⟩:=(hp.row x hx).pw
  rw[ex] at ha
  have ix:=(Pt.vG hp x).mp hx
  have xN:x.2∣((m*n:Nat):Int):=by rw[Int.natCast_mul];exact Int.dvd_mul_of_dvd_right ix.2.2.2.1
  have ab:a≤b:=by
   rcases Nat.lt_or_ge b a with z | z
   ·refine absurd (Int.dvd_trans ?_ xN) iff'.2.2.2.2
    rw[hb,ha,← Int.pow_succ]
    exact⟨y.1^(a+1-(b+1+1)),by rw[← Int.pow_add];congr 1;omega⟩
   ·exact z
  obtain⟨g,hg⟩:∃ g,g=y.1^(b-a):=⟨_,rfl⟩
  have gq:y.2=g*x.2:=by rw[hb,ha,hg,← Int.pow_add];congr 1;omega
  have g1:1≤g:=by rw[hg];exact Pt.zCg p2 _
  obtain⟨cn,en,en',ncn,x2,xd,_⟩:=Rs.wS hp hx
  obtain⟨cN,eN,eN',_,_,_,copN⟩:=Rs.wS hp' hy
  have rel:(m:Int)*cn=g*cN:=by
   have:x.2*((m:Int)*cn)=x.2*(g*cN):=by
    rw[Int.mul_left_comm,← en,← Int.natCast_mul,eN,gq,Int.mul_comm g,Int.mul_assoc]
   exact Int.eq_of_mul_eq_mul_left (by omega) this
  have gm:g∣(m:Int):=by
   have cop:Nat.Coprime g.natAbs cn.natAbs:=by rw[hg];exact gcop row.pr (by rw[← ex];exact ncn) _
   refine Rs.w6 cop ?_
   rw[Int.mul_comm,rel];exact Int.dvd_mul_right _ _
  obtain⟨r,hr⟩:=gm
  have rc:r*cn=cN:=by
   rw[hr,Int.mul_assoc] at rel
   exact Int.eq_of_mul_eq_mul_left (by omega) rel
  have s1:=Rs.sh_of (n:=((m*n:Nat):Int)) (q:=y.2) (hole:=m*k) (u:=u') (by omega) hu'
  have s0:=Rs.sh_of (n:=(n:Int)) (q:=x.2) (hole:=k) (u:=u) (by omega) hu
  have s2:Rs.Sh ((m*n:Nat):Int) y.2 (m*k) (g*(k*u%x.2)):=by
   refine⟨Int.mul_nonneg (by omega) s0.lo,?_,?_⟩
   ·rw[gq];exact Int.mul_lt_mul_of_pos_left s0.hi (by omega)
   ·rw[eN',← rc,hr,gq]
    have d0:=s0.dv
    rw[en'] at d0
    have e:g*(k*u%x.2)*(r*cn)-g*r*k=g*(r*((k*u%x.2)*cn-k)):=by
     rw[Int.mul_sub,Int.mul_sub]
     congr 1
     ·rw[Int.mul_assoc];congr 1;rw[Int.mul_left_comm]
     ·rw[Int.mul_assoc]
    rw[e]
    exact Int.mul_dvd_mul_left g (Int.dvd_mul_of_dvd_right d0)
  have eq:=Rs.sh_one (by rw[eN'];exact copN) s1 s2 (by rw[Int.sub_self];exact Int.dvd_zero _)
  unfold top at t ⊢
  rw[eq] at t
  obtain⟨w,hw⟩:=xd
  rw[ex] at hw
  have w1:x.2/y.1=w:=by rw[hw];exact Int.mul_ediv_cancel_left _ (by omega)
  have w2:y.2/y.1=g*w:=by rw[gq,hw,Int.mul_left_comm];exact Int.mul_ediv_cancel_left _ (by omega)
  rw[w2,Int.mul_ediv_mul_of_pos _ _ (by omega)] at t
  rw[ex,w1]
  exact t
 ·exfalso
  have qm:y.2∣(m:Int):=by
   have cop:Nat.Coprime y.2.natAbs (n:Int).natAbs:=by rw[hb];exact gcop row.pr d _
   refine Rs.w6 cop ?_
   rw[Int.mul_comm,← Int.natCast_mul];exact iff'.2.2.2.1
  unfold top at t
  rw[Int.emod_eq_zero_of_dvd (Int.dvd_mul_of_dvd_left (Int.dvd_mul_of_dvd_left qm)),Int.zero_ediv] at t
  omega
theorem fF_add (m:Nat)(f g:Int→Int):fF m (fun x=>f x+g x)=fun x=>fF m f x+fF m g x:=funext fun x=>by
 unfold fF
 split <;> simp
theorem hp_prm {n:Int}{ps:List (Int×Int)}(hp:Parts n ps){x:Int×Int}(hx:x∈ps):Pt.Prm x.1:=(hp.row x hx).pr
theorem R_fin {n m:Nat}(hm:0 < m){ps ps':List (Int×Int)}{l l':List ((Int×Int)×Int)}(h:Ld' n ps l)(h':Ld' (m*n) ps' l'){f:Int→Int}(hf:Ld.Per n f)(k:Int):R (m*n) l' (fF m f) k=fF m (R n l f) k:=by
 have N1:=h'.n1
 have gone:=R_gone (n:=n) (N:=m*n) (l':=l') (P:=fun p=>p∈ps.map Prod.fst) (fF m) (fF_add m) (fun x=>by unfold fF;split <;> rfl) (fun g p hg hP hi k=>by
  obtain⟨x,hx,ex⟩:=List.mem_map.mp hP
  have pr:=(hp_prm h.hp hx)
  rw[ex] at pr
  have pd:p∣(n:Int):=by rw[← ex];exact ((Pt.vG h.hp x).mp hx).2.1
  obtain⟨y,hy,ey⟩:=Pt.zBp pr ps' h'.hp.row (by rw[h'.hp.prd,Int.natCast_mul];exact Int.dvd_mul_of_dvd_right pd)
  refine h'.kill hy ?_ k
  rw[ey]
  exact fF_inv hm (by have:=pr.1;omega) pd hi) (l:=l) (fun z hz=>h.pc hz) (fun z hz=>by rw[← h.map];exact List.mem_map.mpr ⟨z.1,List.mem_map.mpr ⟨z,hz,rfl⟩,rfl⟩) hf k
 have fix:R (m*n) l' (fF m (R n l f))=fF m (R n l f):=R_fix (fun z hz=>h'.pc hz) fun z hz x t=>by
  unfold fF
  by_cases c:x%m=0
  ·rw[if_pos c]
   obtain⟨k,rfl⟩:=Int.dvd_of_emod_eq_zero c
   rw[Int.mul_ediv_cancel_left _ (by omega)]
   obtain⟨y,hy,ty⟩:=top_fin hm h.n1 h.hp h'.hp (y:=z.1) (by rw[← h'.map];exact List.mem_map.mpr ⟨z,hz,rfl⟩) (h'.le z hz) t
   rw[← h.map] at hy
   obtain⟨z',hz',ez⟩:=List.mem_map.mp hy
   subst ez
   exact h.drop hz' f k (ty _ (h.le z' hz'))
  ·rw[if_neg c]
 have e:fF m f=fun x=>fF m (fun y=>f y-R n l f y) x+fF m (R n l f) x:=by
  rw[← fF_add];congr 1;funext y;omega
 rw[e,R_add,gone,Int.zero_add,fix]
end Rt
set_option linter.all false
namespace Rt
open Pt (Parts)
theorem top_lead {n:Nat}{ps:List (Int×Int)}(hp:Parts n ps){x:Int×Int}(hx:x∈ps){u u':Int}(hu:((n:Int)/x.2*u-1)%x.2=0)(hu':((n:Int)/x.2*u'-1)%x.2=0)(k:Int):top x.1 x.2 u k=top x.1 x.2 u' k:=by
 obtain⟨_,_,_,_,q2,_⟩:=Rs.wS hp hx
 have a:=Rs.sh_of (n:=(n:Int)) (q:=x.2) (hole:=k) (u:=u) (by omega) hu
 have b:=Rs.sh_of (n:=(n:Int)) (q:=x.2) (hole:=k) (u:=u') (by omega) hu'
 unfold top
 rw[Rs.sh_one (Rs.cop_part hp hx) a b (by rw[Int.sub_self];exact Int.dvd_zero _)]
theorem R_lead {n:Nat}{ps:List (Int×Int)}(hp:Parts n ps):∀ {l l':List ((Int×Int)×Int)},l.map Prod.fst=l'.map Prod.fst→(∀ z∈l,z.1∈ps)→(∀ z∈l,((n:Int)/z.1.2*z.2-1)%z.1.2=0)→(∀ z∈l',((n:Int)/z.1.2*z.2-1)%z.1.2=0)→∀ f,R n l f=R n l' f
 | [],[],_,_,_,_,f=>rfl
 | [],_::_,e,_,_,_,f=>by simp at e
 | _::_,[],e,_,_,_,f=>by simp at e
 | z::l,z'::l',e,hm,h,h',f=>by
  rw[List.map_cons,List.map_cons,List.cons.injEq] at e
  obtain⟨e1,e2⟩:=e
  simp only [R]
  have ee:E n z.1.1 z.1.2 z.2 f=E n z'.1.1 z'.1.2 z'.2 f:=funext fun k=>by
   have a:=h z List.mem_cons_self
   have b:=h' z' List.mem_cons_self
   rw[← e1] at b ⊢
   unfold E dl
   rw[top_lead hp (hm z List.mem_cons_self) a b]
  rw[ee]
  exact R_lead hp e2 (fun y hy=>hm y (List.mem_cons_of_mem _ hy)) (fun y hy=>h y (List.mem_cons_of_mem _ hy)) (fun y hy=>h' y (List.mem_cons_of_mem _ hy)) _
theorem Ld'.one {n:Nat}{ps ps':List (Int×Int)}{l l':List ((Int×Int)×Int)}(h:Ld' n ps l)(h':Ld' n ps' l')(f:Int→Int):R n l f=R n l' f:=by
 have e:=Pt.w9 h'.hp h.hp
 subst e
 exact R_lead h.hp (h.map.trans h'.map.symm) (fun z hz=>by rw[← h.map];exact List.mem_map.mpr ⟨z,hz,rfl⟩) h.le h'.le f
theorem Ld'.again {n:Nat}{ps:List (Int×Int)}{l:List ((Int×Int)×Int)}(h:Ld' n ps l)(f:Int→Int):R n l (R n l f)=R n l f:=R_fix (fun z hz=>h.pc hz) fun z hz k t=>h.drop hz f k t
theorem Ld'.deed {n:Nat}{ps:List (Int×Int)}{l:List ((Int×Int)×Int)}(h:Ld' n ps l) (Φ:(Int→Int)→Int→Int)(add:∀ f g,Φ (fun x=>f x+g x)=fun x=>Φ f x+Φ g x)(zero:∀ x,Φ (fun _=>0) x=0)(inv:∀ (f:Int→Int)(p:Int),p∣(n:Int)→Ld.Per n f→Inv n p f→Inv n p (Φ f)){f:Int→Int}(hf:Ld.Per n f) :
  R n l (Φ f)=R n l (Φ (R n l f)):=funext fun k=>by
 have gone:=R_gone (n:=n) (N:=n) (l':=l) (P:=fun p=>p∈ps.map Prod.fst) Φ add zero (fun g p hg hP hi k=>by
  obtain⟨x,hx,ex⟩:=List.mem_map.mp hP
  have pd:p∣(n:Int):=by rw[← ex];exact ((Pt.vG h.hp x).mp hx).2.1
  refine h.kill hx ?_ k
  rw[ex]
  exact inv g p pd hg hi) (l:=l) (fun z hz=>h.pc hz) (fun z hz=>by rw[← h.map];exact List.mem_map.mpr ⟨z.1,List.mem_map.mpr ⟨z,hz,rfl⟩,rfl⟩) hf k
 have e:Φ f=fun x=>Φ (fun y=>f y-R n l f y) x+Φ (R n l f) x:=by
  rw[← add];congr 1;funext y;omega
 rw[e,R_add,gone,Int.zero_add]
theorem Ld'.turn {n:Nat}{ps:List (Int×Int)}{l:List ((Int×Int)×Int)}(h:Ld' n ps l){f:Int→Int}(hf:Ld.Per n f)(far:Int):R n l (fun x=>f (x-far))=R n l (fun x=>R n l f (x-far)) :=
 h.deed (fun g x=>g (x-far)) (fun _ _=>rfl) (fun _=>rfl) (fun g p _ _ hi k t=>by
  show g (k+t*((n:Int)/p)-far)=g (k-far)
  rw[show k+t*((n:Int)/p)-far=k-far+t*((n:Int)/p) by omega,hi]) hf
def cv (n:Nat)(f g:Int→Int)(x:Int):Int:=Ld.S n fun j=>f j*g (x-j)
end Rt
set_option linter.all false
namespace Rt
theorem R_bd {n:Nat}:∀ {l:List ((Int×Int)×Int)}{B:Nat}{f:Int→Int},(∀ k,(f k).natAbs≤B)→∀ k,(R n l f k).natAbs≤2^l.length*B
 | [],B,f,h,k=>by simp only [R,List.length_nil,Nat.pow_zero,Nat.one_mul];exact h k
 | z::l,B,f,h,k=>by
  simp only [R,List.length_cons]
  have:=R_bd (n:=n) (l:=l) (B:=2*B) (f:=E n z.1.1 z.1.2 z.2 f) (fun k=>by
   unfold E
   have a:=h k
   have b:=h (dl n z.1.1 z.1.2 z.2 k)
   omega) k
  rw[Nat.pow_succ,Nat.mul_assoc];exact this
theorem Ld'.bd {n:Nat}{ps:List (Int×Int)}{l:List ((Int×Int)×Int)}(h:Ld' n ps l)(n2:n≤420){a b:List Int}{B:Nat}(ha:Ld.Bd (2^B) a)(bv:∀ x,Ld.at' b x=R n l (Ld.at' a) x):Ld.Bd (2^(8+B)) b:=Ld.bd_of fun k _=>by
 rw[bv]
 refine Nat.le_trans (R_bd (fun k=>Ld.at_bd ha k) k) ?_
 rw[Nat.pow_add]
 refine Nat.mul_le_mul_right _ (Nat.pow_le_pow_right (by decide) ?_)
 have:=few_parts h.hp n2
 rw[← h.map,List.length_map] at this
 exact this
end Rt
set_option linter.all false
namespace Rt
open Pt (Parts)
theorem lead_ex {n:Nat}{ps:List (Int×Int)}(hp:Parts n ps){x:Int×Int}(hx:x∈ps):∃ v:Int,1≤v∧v < x.2∧v*((n:Int)/x.2)%x.2=1:=by
 obtain⟨_,_,_,_,q2,_⟩:=Rs.wS hp hx
 have g:=Rs.G_part hp hx
 have eq:((x.2.toNat:Nat):Int)=x.2:=Int.toNat_of_nonneg (by omega)
 obtain⟨v,hv⟩:=Ld.inv_of (st:=(n:Int)/x.2) (n:=x.2.toNat) (by omega) (by rw[eq];exact g)
 rw[eq] at hv
 have one:(1:Int)%x.2=1:=Int.emod_eq_of_lt (by decide) (by omega)
 rw[one] at hv
 have h0:=Int.emod_nonneg v (show x.2≠0 by omega)
 have h1:=Int.emod_lt_of_pos v (show 0 < x.2 by omega)
 have e:(v%x.2)*((n:Int)/x.2)%x.2=1:=by
  rw[← hv,Int.mul_comm ((n:Int)/x.2) v,Int.mul_emod,Int.emod_emod_of_dvd _ (Int.dvd_refl _),← Int.mul_emod]
 refine⟨v%x.2,?_,h1,e⟩
 rcases Int.lt_or_le (v%x.2) 1 with z | z
 ·have:v%x.2=0:=by omega
  rw[this,Int.zero_mul,Int.zero_emod] at e
  omega
 ·exact z
theorem lead_of {n q u:Int}(hq:2≤q)(h:u*(n/q)%q=1):(n/q*u-1)%q=0:=by
 have one:(1:Int)%q=1:=Int.emod_eq_of_lt (by decide) (by omega)
 exact Int.emod_eq_emod_iff_emod_sub_eq_zero.mp (by rw[Int.mul_comm,h,one])
end Rt
set_option linter.all false
namespace Rt
open Pt (Parts)
def low (p q u k:Int):Int:=(k*u%q)%(q/p)
def fw (p q u j k:Int):Int:=if low p q u j=low p q u k then (if top p q u k=top p q u j then 1 else if top p q u k=p-1 then -1 else 0) else 0
def V:List ((Int×Int)×Int)→Int→Int→Int
 | [],_,_=>1
 | z::l,j,k=>fw z.1.1 z.1.2 z.2 j k*V l j k
theorem V_snoc:∀ (l:List ((Int×Int)×Int))(z:(Int×Int)×Int)(j k:Int),V (l ++ [z]) j k=V l j k*fw z.1.1 z.1.2 z.2 j k
 | [],z,j,k=>by simp [V]
 | y::l,z,j,k=>by
  show fw y.1.1 y.1.2 y.2 j k*V (l ++ [z]) j k=fw y.1.1 y.1.2 y.2 j k*V l j k*fw z.1.1 z.1.2 z.2 j k
  rw[V_snoc l z,Int.mul_assoc]
section
variable {n:Nat}{p q u:Int}
theorem Pc.sr (h:Pc n p q u)(k:Int):k*u%q=low p q u k+(q/p)*top p q u k:=by
 unfold low top;exact (Int.emod_add_mul_ediv _ _).symm
theorem Pc.low_step (h:Pc n p q u)(k t:Int):low p q u (k+t*((n:Int)/p))=low p q u k:=by
 obtain⟨m,em,em',m1⟩:=h.m
 unfold low
 rw[h.step,em']
 have d:m∣q:=⟨p,by rw[em,Int.mul_comm]⟩
 rw[Int.emod_emod_of_dvd _ d,Int.emod_emod_of_dvd _ d,Int.add_mul_emod_self_right]
theorem Pc.low_dl (h:Pc n p q u)(k:Int):low p q u (dl n p q u k)=low p q u k:=h.low_step k _
theorem Pc.sr_eq (h:Pc n p q u)(j k:Int):(j*u%q=k*u%q)↔(low p q u j=low p q u k∧top p q u j=top p q u k):=by
 constructor
 ·intro e;unfold low top;rw[e];exact⟨rfl,rfl⟩
 ·rintro⟨a,b⟩;rw[h.sr,h.sr,a,b]
theorem Pc.sr_dvd (h:Pc n p q u)(j k:Int):(j*u%q=k*u%q)↔q∣k-j:=by
 obtain⟨c,e,e1,e2⟩:=h.cof
 have d:q∣c*u-1:=by have:=Int.dvd_of_emod_eq_zero h.le;rwa [e1] at this
 constructor
 ·intro z
  have z1:q∣k*u-j*u:=Int.dvd_of_emod_eq_zero (Int.emod_eq_emod_iff_emod_sub_eq_zero.mp z.symm)
  have z2:q∣(k-j)*(c*u):=by
   rw[show (k-j)*(c*u)=(k*u-j*u)*c by rw[← Int.sub_mul,Int.mul_assoc,Int.mul_comm c u]]
   exact Int.dvd_mul_of_dvd_left z1
  have z3:q∣(k-j)*(c*u-1):=Int.dvd_mul_of_dvd_right d
  have:k-j=(k-j)*(c*u)-(k-j)*(c*u-1):=by rw[Int.mul_sub,Int.mul_one];omega
  rw[this]
  exact Int.dvd_sub z2 z3
 ·intro z
  refine (Int.emod_eq_emod_iff_emod_sub_eq_zero.mpr (Int.emod_eq_zero_of_dvd ?_)).symm
  rw[← Int.sub_mul]
  exact Int.dvd_mul_of_dvd_left z
theorem Pc.fw_eq (h:Pc n p q u){j:Int}(t:¬ top p q u j=p-1)(k:Int):fw p q u j k=(if q∣k-j then 1 else 0)-(if q∣k-dl n p q u j then 1 else 0):=by
 have a:(q∣k-j)↔(low p q u j=low p q u k∧top p q u j=top p q u k):=(h.sr_dvd j k).symm.trans (h.sr_eq j k)
 have b:(q∣k-dl n p q u j)↔(low p q u j=low p q u k∧p-1=top p q u k):=by
  have:=(h.sr_dvd (dl n p q u j) k).symm.trans (h.sr_eq (dl n p q u j) k)
  rwa [h.low_dl,h.top_dl] at this
 unfold fw
 by_cases l:low p q u j=low p q u k
 ·rw[if_pos l]
  by_cases e:top p q u k=top p q u j
  ·rw[if_pos e,if_pos (a.mpr ⟨l,e.symm⟩),if_neg (fun z=>t (by rw[← e];exact (b.mp z).2.symm))];rfl
  ·rw[if_neg e,if_neg (fun z=>e (a.mp z).2.symm)]
   by_cases g:top p q u k=p-1
   ·rw[if_pos g,if_pos (b.mpr ⟨l,g.symm⟩)];rfl
   ·rw[if_neg g,if_neg (fun z=>g (b.mp z).2.symm)];rfl
 ·rw[if_neg l,if_neg (fun z=>l (a.mp z).1),if_neg (fun z=>l (b.mp z).1)];rfl
theorem cross_sr {p':Int}(d:q∣(n:Int)/p')(k t:Int):(k+t*((n:Int)/p'))*u%q=k*u%q:=by
 obtain⟨c,e⟩:=d
 rw[e,Int.add_mul,show t*(q*c)*u=q*(t*c*u) by rw[← Int.mul_assoc t q c,Int.mul_comm t q,Int.mul_assoc,Int.mul_assoc,Int.mul_assoc],Int.add_mul_emod_self_left]
theorem cross_low {p':Int}(d:q∣(n:Int)/p')(k t:Int):low p q u (k+t*((n:Int)/p'))=low p q u k:=by unfold low;rw[cross_sr d]
theorem cross_fw {p':Int}(d:q∣(n:Int)/p')(j t k:Int):fw p q u (j+t*((n:Int)/p')) k=fw p q u j k:=by unfold fw;rw[cross_low d,jX d]
end
theorem cross_V {n:Nat}{p':Int}:∀ {l:List ((Int×Int)×Int)},(∀ z∈l,z.1.2∣(n:Int)/p')→∀ j t k:Int,V l (j+t*((n:Int)/p')) k=V l j k
 | [],_,_,_,_=>rfl
 | z::l,h,j,t,k=>by
  show fw z.1.1 z.1.2 z.2 (j+t*((n:Int)/p')) k*V l (j+t*((n:Int)/p')) k=fw z.1.1 z.1.2 z.2 j k*V l j k
  rw[cross_fw (h z List.mem_cons_self),cross_V (fun y hy=>h y (List.mem_cons_of_mem _ hy))]
def X:List ((Int×Int)×Int)→Int→Int→Int
 | [],_,_=>1
 | z::l,j,k=>(if z.1.2∣k-j then 1 else 0)*X l j k
theorem X_val:∀ (l:List ((Int×Int)×Int))(j k:Int),X l j k=if (∀ z∈l,z.1.2∣k-j) then 1 else 0
 | [],j,k=>by simp [X]
 | z::l,j,k=>by
  show (if z.1.2∣k-j then 1 else 0)*X l j k=_
  rw[X_val l]
  by_cases a:z.1.2∣k-j
  ·by_cases b:∀ z∈l,z.1.2∣k-j
   ·rw[if_pos a,if_pos b,if_pos (fun y hy=>by rcases List.mem_cons.mp hy with e | e;rw[e];exact a;exact b y e)];rfl
   ·rw[if_pos a,if_neg b,if_neg (fun y=>b fun x hx=>y x (List.mem_cons_of_mem _ hx))];rfl
  ·rw[if_neg a,Int.zero_mul,if_neg (show ¬ ∀ y∈z::l,y.1.2∣k-j from fun y=>a (y z List.mem_cons_self))]
theorem cross_X {n:Nat}{p':Int}:∀ {l:List ((Int×Int)×Int)},(∀ z∈l,z.1.2∣(n:Int)/p')→∀ j t k:Int,X l (j+t*((n:Int)/p')) k=X l j k
 | [],_,_,_,_=>rfl
 | z::l,h,j,t,k=>by
  show (if z.1.2∣k-(j+t*((n:Int)/p')) then 1 else 0)*X l (j+t*((n:Int)/p')) k=(if z.1.2∣k-j then 1 else 0)*X l j k
  rw[cross_X (fun y hy=>h y (List.mem_cons_of_mem _ hy))]
  congr 1
  have d:z.1.2∣t*((n:Int)/p'):=Int.dvd_mul_of_dvd_right (h z List.mem_cons_self)
  by_cases c:z.1.2∣k-j
  ·rw[if_pos c,if_pos (by rw[show k-(j+t*((n:Int)/p'))=(k-j)-t*((n:Int)/p') by omega];exact Int.dvd_sub c d)]
  ·rw[if_neg c,if_neg (fun z=>c (by rw[show k-j=(k-(j+t*((n:Int)/p')))+t*((n:Int)/p') by omega];exact Int.dvd_add z d))]
theorem Ld'.dv {n:Nat}{ps:List (Int×Int)}{l:List ((Int×Int)×Int)}(h:Ld' n ps l){j k:Int}(d:∀ z∈l,z.1.2∣k-j):(n:Int)∣k-j:=by
 have:=Rs.all_dvd (t:=k-j) h.hp.row h.hp.srt (fun x hx=>by
  rw[← h.map] at hx
  obtain⟨z,hz,e⟩:=List.mem_map.mp hx
  rw[← e];exact d z hz)
 rwa [h.hp.prd] at this
theorem Ld'.Xn {n:Nat}{ps:List (Int×Int)}{l:List ((Int×Int)×Int)}(h:Ld' n ps l)(j k:Int):X l j k=if (n:Int)∣k-j then 1 else 0:=by
 rw[X_val]
 by_cases c:(n:Int)∣k-j
 ·rw[if_pos c,if_pos (fun z hz=>Int.dvd_trans (h.pc hz).qn c)]
 ·rw[if_neg c,if_neg (fun d=>c (h.dv d))]
theorem S_at {n:Nat}(hn:1≤n){f:Int→Int}(hf:Ld.Per n f)(j:Int):Ld.S n (fun k=>f k*(if (n:Int)∣k-j then 1 else 0))=f j:=by
 have j0:=Int.emod_nonneg j (show (n:Int)≠0 by omega)
 have j1:=Int.emod_lt_of_pos j (show 0 < (n:Int) by omega)
 have e:Ld.S n (fun k=>f k*(if (n:Int)∣k-j then 1 else 0))=Ld.S n (fun k=>if k=j%n then f k else 0):=Ld.jO fun k hk=>by
  by_cases c:((k:Nat):Int)=j%n
  ·rw[if_pos c,if_pos (by rw[c];exact Int.dvd_of_emod_eq_zero (by rw[Int.sub_emod,Int.emod_emod_of_dvd _ (Int.dvd_refl _),Int.sub_self];rfl)),Int.mul_one]
  ·rw[if_neg c,if_neg,Int.mul_zero]
   intro z
   refine c ?_
   have:=Int.emod_eq_emod_iff_emod_sub_eq_zero.mpr (Int.emod_eq_zero_of_dvd z)
   rwa [Int.emod_eq_of_lt (by omega) (by omega)] at this
 rw[e,Ld.S_one j0,if_pos j1,hf.md]
theorem Ld'.nd' {n:Nat}{ps:List (Int×Int)}{l:List ((Int×Int)×Int)}(h:Ld' n ps l){i j:Nat}{y z:(Int×Int)×Int}(ne:i≠j)(ei:l[i]?=some y)(ej:l[j]?=some z):y.1.2∣(n:Int)/z.1.1:=by
 have pw:=List.pairwise_iff_getElem.mp h.nd
 obtain⟨hi,ei'⟩:=List.getElem?_eq_some_iff.mp ei
 obtain⟨hj,ej'⟩:=List.getElem?_eq_some_iff.mp ej
 have my:y.1∈ps:=by rw[← h.map];exact List.mem_map.mpr ⟨y,List.mem_of_getElem? ei,rfl⟩
 have mz:z.1∈ps:=by rw[← h.map];exact List.mem_map.mpr ⟨z,List.mem_of_getElem? ej,rfl⟩
 refine cross' h.hp my mz ?_
 rcases Nat.lt_or_ge i j with g | g
 ·have:=pw i j hi hj g;rwa [ei',ej'] at this
 ·have:=pw j i hj hi (by omega);rw[ei',ej'] at this;exact fun e=>this e.symm
theorem Ld'.wsum' {n:Nat}{ps:List (Int×Int)}{l:List ((Int×Int)×Int)}(h:Ld' n ps l){f:Int→Int}(hf:Ld.Per n f):∀ i:Nat,i≤l.length→∀ j:Int,(∀ z∈l.take i,¬ top z.1.1 z.1.2 z.2 j=z.1.1-1)→R n (l.take i) f j=Ld.S n (fun k=>f k*(V (l.take i) j k*X (l.drop i) j k)):=by
 intro i
 induction i with
 | zero =>
  intro _ j _
  rw[List.take_zero,List.drop_zero]
  show f j=_
  rw[← S_at h.n1 hf j]
  refine Ld.jO fun k _=>?_
  show _=f k*(1*X l j k)
  rw[h.Xn,Int.one_mul]
 | succ i ih =>
  intro il j hj
  have ei:l[i]?=some l[i]:=List.getElem?_eq_getElem (by omega)
  have et:l.take (i+1)=l.take i ++ [l[i]]:=Pt.take_snoc ei
  have ed:l.drop i=l[i]::l.drop (i+1):=List.drop_eq_getElem_cons (by omega)
  have pc:=h.pc (List.getElem_mem (by omega:i < l.length))
  have tz:¬ top l[i].1.1 l[i].1.2 l[i].2 j=l[i].1.1-1:=hj _ (by rw[et];exact List.mem_append_right _ (by simp))
  have ca:∀ y∈l.take i,y.1.2∣(n:Int)/l[i].1.1:=fun y hy=>by
   obtain⟨a,ha,ea⟩:=List.mem_iff_getElem.mp hy
   rw[List.length_take] at ha
   rw[List.getElem_take] at ea
   exact h.nd' (i:=a) (j:=i) (by omega) (by rw[← ea];exact List.getElem?_eq_getElem (by omega)) ei
  have cb:∀ y∈l.drop (i+1),y.1.2∣(n:Int)/l[i].1.1:=fun y hy=>by
   obtain⟨a,ha,ea⟩:=List.mem_iff_getElem.mp hy
   rw[List.length_drop] at ha
   rw[List.getElem_drop] at ea
   exact h.nd' (i:=i+1+a) (j:=i) (by omega) (by rw[← ea];exact List.getElem?_eq_getElem (by omega)) ei
  have hj':∀ z∈l.take i,¬ top z.1.1 z.1.2 z.2 j=z.1.1-1:=fun z hz=>hj z (by rw[et];exact List.mem_append_left _ hz)
  generalize l[i]=z at *
  have e1:=ih (by omega) j hj'
  have e2:=ih (by omega) (dl n z.1.1 z.1.2 z.2 j) fun y hy=>by unfold dl;rw[jX (ca y hy)];exact hj' y hy
  rw[et,R_snoc]
  show R n (l.take i) f j-R n (l.take i) f (dl n z.1.1 z.1.2 z.2 j)=_
  rw[e1,e2,ed]
  have key:∀ k:Int,f k*(V (l.take i) j k*X (z::l.drop (i+1)) j k)=f k*(V (l.take i ++ [z]) j k*X (l.drop (i+1)) j k)+f k*(V (l.take i) (dl n z.1.1 z.1.2 z.2 j) k*X (z::l.drop (i+1)) (dl n z.1.1 z.1.2 z.2 j) k):=fun k=>by
   rw[V_snoc,pc.fw_eq tz]
   show f k*(V (l.take i) j k*((if z.1.2∣k-j then 1 else 0)*X (l.drop (i+1)) j k))=_+f k*(V (l.take i) (dl n z.1.1 z.1.2 z.2 j) k*((if z.1.2∣k-dl n z.1.1 z.1.2 z.2 j then 1 else 0)*X (l.drop (i+1)) (dl n z.1.1 z.1.2 z.2 j) k))
   have x1:X (l.drop (i+1)) (dl n z.1.1 z.1.2 z.2 j) k=X (l.drop (i+1)) j k:=by unfold dl;exact cross_X cb _ _ _
   have x2:V (l.take i) (dl n z.1.1 z.1.2 z.2 j) k=V (l.take i) j k:=by unfold dl;exact cross_V ca _ _ _
   rw[x1,x2,← Int.mul_add]
   congr 1
   rw[Int.mul_assoc,← Int.mul_add,← Int.add_mul]
   congr 2
   omega
  have s:=Ld.jO (n:=n) (F:=fun k=>f k*(V (l.take i) j k*X (z::l.drop (i+1)) j k)) (G:=fun k=>f k*(V (l.take i ++ [z]) j k*X (l.drop (i+1)) j k)+f k*(V (l.take i) (dl n z.1.1 z.1.2 z.2 j) k*X (z::l.drop (i+1)) (dl n z.1.1 z.1.2 z.2 j) k)) (fun k _=>key k)
  rw[Ld.S_add] at s
  omega
theorem Ld'.wsum {n:Nat}{ps:List (Int×Int)}{l:List ((Int×Int)×Int)}(h:Ld' n ps l){f:Int→Int}(hf:Ld.Per n f){j:Int}(hj:∀ z∈l,¬ top z.1.1 z.1.2 z.2 j=z.1.1-1):R n l f j=Ld.S n (fun k=>f k*V l j k):=by
 have:=h.wsum' hf l.length (Nat.le_refl _) j (by rw[List.take_length];exact hj)
 rw[List.take_length,List.drop_length] at this
 rw[this]
 exact Ld.jO fun k _=>by show f k*(V l j k*1)=_;rw[Int.mul_one]
theorem Ld'.seen {n:Nat}{ps:List (Int×Int)}{l:List ((Int×Int)×Int)}(h:Ld' n ps l)(a:Int):∃ j:Int,(∀ z∈l,¬ top z.1.1 z.1.2 z.2 j=z.1.1-1)∧¬ V l j a=0:=by
 have key:∀ i:Nat,i≤l.length→∃ j:Int,(∀ z∈l.take i,¬ top z.1.1 z.1.2 z.2 j=z.1.1-1)∧¬ V (l.take i) j a=0∧∀ z∈l.drop i,low z.1.1 z.1.2 z.2 j=low z.1.1 z.1.2 z.2 a∧top z.1.1 z.1.2 z.2 j=top z.1.1 z.1.2 z.2 a:=by
  intro i
  induction i with
  | zero=>intro _;exact⟨a,by simp,by simp [V],fun z _=>⟨rfl,rfl⟩⟩
  | succ i ih =>
   intro il
   obtain⟨j,j1,j2,j3⟩:=ih (by omega)
   have ei:l[i]?=some l[i]:=List.getElem?_eq_getElem (by omega)
   have et:l.take (i+1)=l.take i ++ [l[i]]:=Pt.take_snoc ei
   have ed:l.drop i=l[i]::l.drop (i+1):=List.drop_eq_getElem_cons (by omega)
   have pc:=h.pc (List.getElem_mem (by omega:i < l.length))
   have ca:∀ y∈l.take i,y.1.2∣(n:Int)/l[i].1.1:=fun y hy=>by
    obtain⟨b,ha,ea⟩:=List.mem_iff_getElem.mp hy
    rw[List.length_take] at ha
    rw[List.getElem_take] at ea
    exact h.nd' (i:=b) (j:=i) (by omega) (by rw[← ea];exact List.getElem?_eq_getElem (by omega)) ei
   have cb:∀ y∈l.drop (i+1),y.1.2∣(n:Int)/l[i].1.1:=fun y hy=>by
    obtain⟨b,ha,ea⟩:=List.mem_iff_getElem.mp hy
    rw[List.length_drop] at ha
    rw[List.getElem_drop] at ea
    exact h.nd' (i:=i+1+b) (j:=i) (by omega) (by rw[← ea];exact List.getElem?_eq_getElem (by omega)) ei
   rw[ed] at j3
   have jz:=j3 _ List.mem_cons_self
   have j3':∀ z∈l.drop (i+1),low z.1.1 z.1.2 z.2 j=low z.1.1 z.1.2 z.2 a∧top z.1.1 z.1.2 z.2 j=top z.1.1 z.1.2 z.2 a:=fun z hz=>j3 z (List.mem_cons_of_mem _ hz)
   rw[et]
   generalize l[i]=z at *
   have p2:=pc.p2
   by_cases c:top z.1.1 z.1.2 z.2 a=z.1.1-1
   ·have t1:=pc.top_step j 1
    rw[jz.2,c,show z.1.1-1+1=z.1.1 by omega,Int.emod_self] at t1
    refine⟨j+1*((n:Int)/z.1.1),fun y hy=>?_,?_,fun y hy=>?_⟩
    ·rcases List.mem_append.mp hy with w | w
     ·rw[jX (ca y w)];exact j1 y w
     ·rw[List.mem_singleton.mp w,t1];omega
    ·rw[V_snoc,cross_V ca]
     have:fw z.1.1 z.1.2 z.2 (j+1*((n:Int)/z.1.1)) a=-1:=by
      unfold fw
      rw[pc.low_step,t1,jz.1,if_pos rfl,c,if_neg (by omega),if_pos rfl]
     rw[this]
     omega
    ·rw[cross_low (cb y hy),jX (cb y hy)];exact j3' y hy
   ·refine⟨j,fun y hy=>?_,?_,j3'⟩
    ·rcases List.mem_append.mp hy with w | w
     ·exact j1 y w
     ·rw[List.mem_singleton.mp w,jz.2];exact c
    ·rw[V_snoc]
     have:fw z.1.1 z.1.2 z.2 j a=1:=by unfold fw;rw[jz.1,jz.2,if_pos rfl,if_pos rfl]
     rw[this,Int.mul_one]
     exact j2
 obtain⟨j,a1,a2,_⟩:=key l.length (Nat.le_refl _)
 rw[List.take_length] at a1 a2
 exact⟨j,a1,a2⟩
theorem Ld'.bent {n:Nat}{ps:List (Int×Int)}{l:List ((Int×Int)×Int)}(h:Ld' n ps l)(a:Int){w:Int}(hw:¬ w=0):∃ j:Int,¬ R n l (fun x=>if x%n=a%n then w else 0) j=0:=by
 obtain⟨j,j1,j2⟩:=h.seen a
 refine⟨j,?_⟩
 have n1:=h.n1
 have per:Ld.Per n (fun x=>if x%n=a%n then w else 0):=fun x y e=>by show (if x%n=a%n then w else 0)=_;rw[e]
 rw[h.wsum per j1]
 have a0:=Int.emod_nonneg a (show (n:Int)≠0 by omega)
 have a1:=Int.emod_lt_of_pos a (show 0 < (n:Int) by omega)
 have e:Ld.S n (fun k=>(if k%n=a%n then w else 0)*V l j k)=Ld.S n (fun k=>if k=a%n then w*V l j (a%n) else 0):=Ld.jO fun k hk=>by
  rw[Int.emod_eq_of_lt (show (0:Int)≤(k:Nat) by omega) (show ((k:Nat):Int) < n by omega)]
  by_cases c:((k:Nat):Int)=a%n
  ·rw[if_pos c,if_pos c,c]
  ·rw[if_neg c,if_neg c,Int.zero_mul]
 rw[e,Ld.S_one (c:=a%n) (G:=fun _=>w*V l j (a%n)) a0,if_pos a1]
 have ev:V l j (a%n)=V l j a:=by
  have hv:∀ l':List ((Int×Int)×Int),(∀ z∈l',z.1.2∣(n:Int))→V l' j (a%n)=V l' j a:=by
   intro l'
   induction l' with
   | nil=>intro _;rfl
   | cons z r ih =>
    intro hz
    show fw z.1.1 z.1.2 z.2 j (a%n)*V r j (a%n)=fw z.1.1 z.1.2 z.2 j a*V r j a
    rw[ih fun y hy=>hz y (List.mem_cons_of_mem _ hy)]
    congr 1
    have sr:(a%n)*z.2%z.1.2=a*z.2%z.1.2:=by rw[Int.mul_emod,Int.emod_emod_of_dvd a (hz z List.mem_cons_self),← Int.mul_emod]
    unfold fw low top
    rw[sr]
  exact hv l fun z hz=>(h.pc hz).qn
 rw[ev]
 intro z
 rcases Int.mul_eq_zero.mp z with z | z
 ·exact hw z
 ·exact j2 z
end Rt
namespace Rt
end Rt
set_option linter.all false
namespace Rt
open Pt (Parts)
section
variable {n:Nat}{p q u:Int}
end
theorem Ld'.ex {n:Nat}{ps:List (Int×Int)}(hn:1≤n)(hp:Parts n ps):∃ l,Ld' n ps l:=by
 have key:∀ qs:List (Int×Int),(∀ x∈qs,x∈ps)→∃ l:List ((Int×Int)×Int),l.map Prod.fst=qs∧∀ z∈l,((n:Int)/z.1.2*z.2-1)%z.1.2=0:=by
  intro qs
  induction qs with
  | nil=>intro _;exact⟨[],rfl,by simp⟩
  | cons x r ih =>
   intro h
   obtain⟨l,e,hl⟩:=ih fun y hy=>h y (List.mem_cons_of_mem _ hy)
   have hx:=h x List.mem_cons_self
   obtain⟨v,v1,v2,hv⟩:=lead_ex hp hx
   obtain⟨_,_,_,_,q2,_⟩:=Rs.wS hp hx
   refine⟨(x,v)::l,by rw[List.map_cons,e],fun z hz=>?_⟩
   rcases List.mem_cons.mp hz with w | w
   ·rw[w];exact lead_of q2 hv
   ·exact hl z w
 obtain⟨l,e,hl⟩:=key ps fun _ h=>h
 exact⟨l,hn,hp,e,hl⟩
def Kp (l:List ((Int×Int)×Int))(k:Int):Prop:=∀ z∈l,¬ top z.1.1 z.1.2 z.2 k=z.1.1-1
instance (l:List ((Int×Int)×Int))(k:Int):Decidable (Kp l k):=by unfold Kp;infer_instance
def hs (n:Nat):List Int:=(List.range n).map fun (i:Nat)=>(i:Int)
end Rt
set_option linter.all false
namespace Rt
open Pt (Parts)
end Rt
set_option linter.all false
namespace Rt
open Pt (Parts)
theorem E_mul (n:Nat)(p q u:Int)(f:Int→Int)(m k:Int):E n p q u (fun x=>f x*m) k=E n p q u f k*m:=by unfold E;dsimp only;rw[Int.sub_mul]
theorem R_mul (n:Nat)(m:Int):∀ (l:List ((Int×Int)×Int))(f:Int→Int)(k:Int),R n l (fun x=>f x*m) k=R n l f k*m
 | [],f,k=>rfl
 | z::l,f,k=>by
  simp only [R]
  have:E n z.1.1 z.1.2 z.2 (fun x=>f x*m)=fun x=>E n z.1.1 z.1.2 z.2 f x*m:=funext fun x=>E_mul n _ _ _ f m x
  rw[this,R_mul n m l]
end Rt
set_option linter.all false
namespace Sk
open Pt (Prm Parts Row Prd)
theorem per_mul {f:Int→Int}{s:Int}(h:∀ x,f (x+s)=f x)(x u:Int):f (x+u*s)=f x:=by
 have nat:∀ (k:Nat)(x:Int),f (x+k*s)=f x:=by
  intro k
  induction k with
  | zero=>intro x;rw[show x+((0:Nat):Int)*s=x by grind]
  | succ k ih=>intro x;rw[show x+((k+1:Nat):Int)*s=(x+k*s)+s by grind,h,ih]
 rcases Int.le_total 0 u with c | c
 ·have e:u=((u.toNat:Nat):Int):=by omega
  rw[e];exact nat _ x
 ·have e:u=-(((-u).toNat:Nat):Int):=by omega
  have:=nat (-u).toNat (x+u*s)
  rw[← this]
  congr 1
  grind
def Sq (s t:Int)(a:Int→Int):Prop:=∀ x,a x-a (x+s)-a (x+t)+a (x+s+t)=0
theorem Sq.rect {s t:Int}{a:Int→Int}(h:Sq s t a)(b u v:Int):a (b+u*s+v*t)=a (b+u*s)+a (b+v*t)-a b:=by
 have f1:∀ x,(fun x=>a (x+t)-a x) (x+s)=(fun x=>a (x+t)-a x) x:=fun x=>by
  have:=h x
  show a (x+s+t)-a (x+s)=a (x+t)-a x
  omega
 have g1:∀ x,(fun x=>a (x+u*s)-a x) (x+t)=(fun x=>a (x+u*s)-a x) x:=fun x=>by
  have e:a (x+u*s+t)-a (x+u*s)=a (x+t)-a x:=per_mul (f:=fun x=>a (x+t)-a x) f1 x u
  show a (x+t+u*s)-a (x+t)=a (x+u*s)-a x
  rw[show x+t+u*s=x+u*s+t by grind]
  omega
 have e:a (b+v*t+u*s)-a (b+v*t)=a (b+u*s)-a b:=per_mul (f:=fun x=>a (x+u*s)-a x) g1 b v
 rw[show b+u*s+v*t=b+v*t+u*s by grind]
 omega
theorem zDq (f:Nat→Int):∀ p:Nat,(∀ k < p,f k=0)→((List.range p).map f).sum=0
 | 0,_=>rfl
 | p+1,h=>by rw[List.range_succ,List.map_append,List.sum_append,zDq f p fun k hk=>h k (by omega)];simp [h p (by omega)]
theorem sum_one (f:Nat→Int){k1:Nat}:∀ {p:Nat},k1 < p→(∀ k < p,k≠k1→f k=0)→((List.range p).map f).sum=f k1
 | 0,h,_=>by omega
 | p+1,h,z=>by
  rw[List.range_succ,List.map_append,List.sum_append]
  by_cases e:k1=p
  ·rw[zDq f p fun k hk=>z k (by omega) (by omega),e];simp
  ·rw[sum_one f (show k1 < p by omega) fun k hk ne=>z k (by omega) ne];simp [z p (by omega) (Ne.symm e)]
theorem pick {p q y:Int}{v:Int}(hp:0 < p)(hv:(q*v)%p=1%p):∃ k:Nat,(k:Int) < p∧p∣y-k*q:=by
 have c0:=Int.emod_nonneg (y*v) (show p≠0 by omega)
 have c1:=Int.emod_lt_of_pos (y*v) hp
 refine⟨(y*v%p).toNat,by omega,?_⟩
 rw[Int.toNat_of_nonneg c0]
 have e1:=Int.emod_add_mul_ediv (y*v) p
 have d:p∣q*v-1:=Int.dvd_of_emod_eq_zero (by rw[Int.sub_emod,hv];simp)
 obtain⟨z,hz⟩:=d
 refine⟨y*v/p*q-y*z,?_⟩
 grind
theorem pick_one {p q y:Int}(cop:Nat.Coprime p.natAbs q.natAbs){k k1:Nat}(hk:(k:Int) < p)(hk1:(k1:Int) < p)(d:p∣y-k*q)(d1:p∣y-k1*q):k=k1:=by
 have d2:p∣q*((k1:Int)-k):=by
  have:=Int.dvd_sub d d1
  rwa [show y-k*q-(y-k1*q)=q*((k1:Int)-k) by grind] at this
 obtain⟨c,hc⟩:=Rs.w6 cop d2
 have:c=0:=by
  rcases Int.lt_trichotomy c 0 with g | g | g
  ·have:=Int.mul_le_mul_of_nonneg_left (show c≤-1 by omega) (show 0≤p by omega)
   omega
  ·exact g
  ·have:=Int.mul_le_mul_of_nonneg_left (show 1≤c by omega) (show 0≤p by omega)
   omega
 rw[this] at hc
 omega
structure Two (n:Nat)(p q:Int)(m:Nat):Prop where
 p2:2≤p
 q2:2≤q
 m0:0 < m
 e:(n:Int)=p*q*m
 cop:Nat.Coprime p.natAbs q.natAbs
 vq:∃ v,(q*v)%p=1%p
 vp:∃ v,(p*v)%q=1%q
theorem Two.s {n m:Nat}{p q:Int}(T:Two n p q m):(n:Int)/p=q*m:=by
 have:=T.p2
 rw[T.e,Int.mul_assoc];exact Int.mul_ediv_cancel_left _ (by omega)
theorem Two.t {n m:Nat}{p q:Int}(T:Two n p q m):(n:Int)/q=p*m:=by
 have:=T.q2
 rw[T.e,Int.mul_comm p q,Int.mul_assoc];exact Int.mul_ediv_cancel_left _ (by omega)
def cr (p q s t:Int)(a:Int→Int)(h low:Int):List (Int×Int×Int) :=
 (List.range p.toNat).map (fun (k:Nat)=>(q,h+k*s,a (h+k*s)-a low)) ++ (List.range q.toNat).map (fun (j:Nat)=>(p,low%t+j*t,a (low%t+j*t)))
def Low (p s:Int)(a:Int→Int)(h low:Int):Prop:=∃ k0:Nat,(k0:Int) < p∧low=h+k0*s∧∀ k:Nat,(k:Int) < p→a low≤a (h+k*s)
theorem rvs_app (n:Int)(x y:List (Int×Int×Int))(z:Int):Rg.rvs n (x ++ y) z=Rg.rvs n x z+Rg.rvs n y z:=by unfold Rg.rvs;rw[List.map_append,List.sum_append]
theorem dvd_m {m x y:Int}(d:m∣x-y)(y0:0≤y)(ym:y < m):x%m=y:=by
 obtain⟨c,hc⟩:=d
 rw[show x=y+m*c by omega,Int.add_mul_emod_self_left,Int.emod_eq_of_lt y0 ym]
theorem cr_val {n m:Nat}{p q:Int}{a:Int→Int}{h low:Int}(T:Two n p q m)(per:Ld.Per n a)(sq:Sq (q*m) (p*m) a)(h0:0≤h)(hm:h < m)(L:Low p (q*m) a h low)(x:Int) :
  Rg.rvs n (cr p q (q*m) (p*m) a h low) x=if x%m=h then a x else 0:=by
 obtain⟨k0,k0p,rfl,_⟩:=L
 have p2:=T.p2
 have q2:=T.q2
 have m0:=T.m0
 obtain⟨v,hv⟩:=T.vq
 obtain⟨v',hv'⟩:=T.vp
 have pn:((p.toNat:Nat):Int)=p:=by omega
 have qn:((q.toNat:Nat):Int)=q:=by omega
 unfold cr
 rw[rvs_app]
 unfold Rg.rvs
 rw[List.map_map,List.map_map]
 have lw:=Int.emod_add_mul_ediv (h+k0*(q*m)) (p*m)
 generalize hlt:(h+(k0:Int)*(q*m))%(p*m)=lt at lw ⊢
 generalize (h+(k0:Int)*(q*m))/(p*m)=w at lw
 have e1:∀ k:Nat,((fun t=>Rg.rv (↑n) t x)∘fun (k:Nat)=>(q,h + ↑k*(q * ↑m),a (h + ↑k*(q * ↑m))-a (h + ↑k0*(q * ↑m)))) k=if (x-(h+k*(q*m)))%(p*m)=0 then a (h+k*(q*m))-a (h+k0*(q*m)) else 0:=fun k=>by
  show Rg.rv n (q,h + ↑k*(q * ↑m),a (h + ↑k*(q * ↑m))-a (h + ↑k0*(q * ↑m))) x=_
  unfold Rg.rv;rw[T.t]
 have e2:∀ j:Nat,((fun t=>Rg.rv (↑n) t x)∘fun (j:Nat)=>(p,lt + ↑j*(p * ↑m),a (lt + ↑j*(p * ↑m)))) j=if (x-(lt+j*(p*m)))%(q*m)=0 then a (lt+j*(p*m)) else 0:=fun j=>by
  show Rg.rv n (p,lt + ↑j*(p * ↑m),a (lt + ↑j*(p * ↑m))) x=_
  unfold Rg.rv;rw[T.s]
 by_cases c:x%m=h
 ·rw[if_pos c]
  have xy:=Int.emod_add_mul_ediv x m
  rw[c] at xy
  generalize x/(m:Int)=y at xy
  obtain⟨k1,k1p,d1⟩:=pick (y:=y) (show 0 < p by omega) hv
  obtain⟨j1,j1q,d2⟩:=pick (y:=y+p*w) (show 0 < q by omega) hv'
  have i1:∀ k:Nat,(x-(h+k*(q*m)))%(p*m)=0↔p∣y-k*q:=fun k=>by
   rw[← Int.dvd_iff_emod_eq_zero,show x-(h+k*(q*m))=(y-k*q)*m by grind]
   exact Int.mul_dvd_mul_iff_right (by omega)
  have i2:∀ j:Nat,(x-(lt+j*(p*m)))%(q*m)=0↔q∣y+p*w-j*p:=fun j=>by
   rw[← Int.dvd_iff_emod_eq_zero,show x-(lt+j*(p*m))=(y+p*w-j*p-k0*q)*m by grind]
   refine Iff.trans (Int.mul_dvd_mul_iff_right (by omega)) ?_
   constructor
   ·intro d;have:=Int.dvd_add d (show q∣k0*q from ⟨k0,by grind⟩);rwa [show y+p*w-j*p-k0*q+k0*q=y+p*w-j*p by omega] at this
   ·intro d;exact Int.dvd_sub d ⟨k0,by grind⟩
  rw[sum_one _ (k1:=k1) (by omega) (fun k hk ne=>by rw[e1,if_neg];exact fun z=>ne (pick_one T.cop (by omega) k1p ((i1 k).mp z) d1)),
   sum_one _ (k1:=j1) (by omega) (fun j hj ne=>by rw[e2,if_neg];exact fun z=>ne (pick_one (by rw[Nat.Coprime,Nat.gcd_comm];exact T.cop) (by omega) j1q ((i2 j).mp z) d2)),e1,e2,if_pos ((i1 k1).mpr d1),if_pos ((i2 j1).mpr d2)]
  obtain⟨z,hz⟩:=id d1
  have r:=sq.rect (h+k0*(q*m)) (k1-k0) z
  rw[show h+(k0:Int)*(q*m)+((k1:Int)-k0)*(q*m)=h+k1*(q*m) by grind,show h+(k1:Int)*(q*m)+z*(p*m)=x by grind] at r
  have dj:q∣p*(w+z-j1):=by
   have:=Int.dvd_sub d2 (show q∣k1*q from ⟨k1,by grind⟩)
   rwa [show y+p*w-j1*p-k1*q=p*(w+z-j1) by grind] at this
  obtain⟨g,hg⟩:=Rs.w6 (show Nat.Coprime q.natAbs p.natAbs by rw[Nat.Coprime,Nat.gcd_comm];exact T.cop) dj
  have pe:a (h+k0*(q*m)+z*(p*m))=a (lt+j1*(p*m)):=by
   refine per _ _ ?_
   rw[show h+(k0:Int)*(q*m)+z*(p*m)=lt+j1*(p*m)+n*g by rw[T.e];grind,Int.add_mul_emod_self_left]
  rw[r,pe]
  omega
 ·rw[if_neg c,zDq _ _ fun k _=>?_,zDq _ _ fun j _=>?_]
  ·rfl
  ·rw[e2,if_neg]
   intro z
   obtain⟨g,hg⟩:=Int.dvd_of_emod_eq_zero z
   exact c (dvd_m (y:=h) ⟨q*g+j*p+k0*q-p*w,by grind⟩ h0 hm)
  ·rw[e1,if_neg]
   intro z
   obtain⟨g,hg⟩:=Int.dvd_of_emod_eq_zero z
   exact c (dvd_m (y:=h) ⟨p*g+k*q,by grind⟩ h0 hm)
inductive Built (p q s t:Int)(a:Int→Int):Nat→List (Int×Int×Int)→Prop where
 | zero:Built p q s t a 0 []
 | succ {i:Nat}{rows:List (Int×Int×Int)}{low:Int}:Built p q s t a i rows→Low p s a i low→Built p q s t a (i+1) (rows ++ cr p q s t a i low)
theorem Built.val {n m:Nat}{p q:Int}{a:Int→Int}(T:Two n p q m)(per:Ld.Per n a)(sq:Sq (q*m) (p*m) a){i:Nat}{rows:List (Int×Int×Int)}(B:Built p q (q*m) (p*m) a i rows)(hi:i≤m)(x:Int) :
  Rg.rvs n rows x=if x%m < i then a x else 0:=by
 have m0:=T.m0
 have x0:=Int.emod_nonneg x (show (m:Int)≠0 by omega)
 induction B with
 | zero=>rw[if_neg (by omega)];rfl
 | @succ i rows low B L ih =>
  rw[rvs_app,ih (by omega),cr_val T per sq (by omega) (by omega) L]
  by_cases c:x%m=i
  ·rw[if_neg (by omega),if_pos c,if_pos (by omega)];omega
  ·by_cases c2:x%m < i
   ·rw[if_pos c2,if_neg c,if_pos (by omega)];omega
   ·rw[if_neg c2,if_neg c,if_neg (by omega)];rfl
theorem Built.all {n m:Nat}{p q:Int}{a:Int→Int}(T:Two n p q m)(per:Ld.Per n a)(sq:Sq (q*m) (p*m) a){rows:List (Int×Int×Int)}(B:Built p q (q*m) (p*m) a m rows)(x:Int):Rg.rvs n rows x=a x:=by
 rw[B.val T per sq (Nat.le_refl _),if_pos (Int.emod_lt_of_pos _ (by have:=T.m0;omega))]
theorem cr_ok {n m:Nat}{p q:Int}{a:Int→Int}{h low:Int}(T:Two n p q m)(h0:0≤h)(hm:h < m)(L:Low p (q*m) a h low)(nn:∀ x,0≤a x) :
  ∀ r∈cr p q (q*m) (p*m) a h low,(r.1=p∨r.1=q)∧0≤r.2.1∧r.2.1 < n∧0≤r.2.2∧r.2.1%m=h:=by
 obtain⟨k0,k0p,el,lo⟩:=L
 have p2:=T.p2
 have q2:=T.q2
 have m0:=T.m0
 have e:=T.e
 intro r hr
 rcases List.mem_append.mp hr with z | z
 ·obtain⟨k,hk,rfl⟩:=List.mem_map.mp z
  have hk:=List.mem_range.mp hk
  have b1:(0:Int)≤k*(q*m):=Int.mul_nonneg (by omega) (Int.mul_nonneg (by omega) (by omega))
  have b2:(k:Int)*(q*m)≤(p-1)*(q*m):=Int.mul_le_mul_of_nonneg_right (by omega) (Int.mul_nonneg (by omega) (by omega))
  have b3:(m:Int)≤q*m:=by have:=Int.mul_le_mul_of_nonneg_right (show 1≤q by omega) (show (0:Int)≤m by omega);omega
  have b4:(p-1)*(q*m)+q*m=n:=by rw[e];grind
  have:=lo k (by omega)
  refine⟨.inr rfl,by show 0≤h+k*(q*m);omega,by show h+k*(q*m) < n;omega,by show 0≤a (h+k*(q*m))-a low;omega,dvd_m (y:=h) ⟨k*q,by show h+k*(q*m)-h=_;grind⟩ h0 hm⟩
 ·obtain⟨j,hj,rfl⟩:=List.mem_map.mp z
  have hj:=List.mem_range.mp hj
  have t0:0 < p*(m:Int):=Int.mul_pos (by omega) (by omega)
  have l0:=Int.emod_nonneg low (show p*(m:Int)≠0 by omega)
  have l1:=Int.emod_lt_of_pos low t0
  have lw:=Int.emod_add_mul_ediv low (p*m)
  have b1:(0:Int)≤j*(p*m):=Int.mul_nonneg (by omega) (by omega)
  have b2:(j:Int)*(p*m)≤(q-1)*(p*m):=Int.mul_le_mul_of_nonneg_right (by omega) (by omega)
  have b4:(q-1)*(p*m)+p*m=n:=by rw[e];grind
  refine⟨.inl rfl,by show 0≤low%(p*m)+j*(p*m);omega,by show low%(p*m)+j*(p*m) < n;omega,nn _,dvd_m (y:=h) ⟨k0*q-p*(low/(p*m))+j*p,?_⟩ h0 hm⟩
  show low%(p*m)+j*(p*m)-h=_
  generalize low%(p*m)=lt at *
  generalize low/(p*(m:Int))=w at *
  grind
theorem jM {β:Type}(f:Nat→β)(inj:∀ i j,f i=f j→i=j)(p:Nat):((List.range p).map f).Nodup:=by
 refine List.Pairwise.map f (fun i j ne e=>ne (inj i j e)) List.nodup_range
theorem cr_nodup {n m:Nat}{p q:Int}{a:Int→Int}{h low:Int}(T:Two n p q m)(ne:p≠q):((cr p q (q*m) (p*m) a h low).map fun t=>(t.1,t.2.1)).Nodup:=by
 have p2:=T.p2
 have q2:=T.q2
 have m0:=T.m0
 have s0:0 < q*(m:Int):=Int.mul_pos (by omega) (by omega)
 have t0:0 < p*(m:Int):=Int.mul_pos (by omega) (by omega)
 unfold cr
 rw[List.map_append,List.map_map,List.map_map]
 refine List.nodup_append.mpr ⟨jM _ (fun i j e=>?_) _,jM _ (fun i j e=>?_) _,fun x hx y hy e=>?_⟩
 ·have e2:h+(i:Int)*(q*m)=h+j*(q*m):=congrArg Prod.snd e
  have:(i:Int)=j:=Int.eq_of_mul_eq_mul_right (show q*(m:Int)≠0 by omega) (by omega)
  omega
 ·have e2:low%(p*m)+(i:Int)*(p*m)=low%(p*m)+j*(p*m):=congrArg Prod.snd e
  have:(i:Int)=j:=Int.eq_of_mul_eq_mul_right (show p*(m:Int)≠0 by omega) (by omega)
  omega
 ·obtain⟨k,_,rfl⟩:=List.mem_map.mp hx
  obtain⟨j,_,rfl⟩:=List.mem_map.mp hy
  exact ne (congrArg Prod.fst e).symm
def RowOk (n:Nat)(pl:List Int)(r:Int×Int×Int):Prop:=r.1∈pl∧0≤r.2.1∧r.2.1 < n∧0≤r.2.2
theorem Built.ok {n m:Nat}{p q:Int}{a:Int→Int}(T:Two n p q m)(ne:p≠q)(nn:∀ x,0≤a x){i:Nat}{rows:List (Int×Int×Int)}(B:Built p q (q*m) (p*m) a i rows)(hi:i≤m) :
  (∀ r∈rows,RowOk n [p,q] r∧r.2.1%m < i)∧(rows.map fun t=>(t.1,t.2.1)).Nodup∧(rows.length:Int)=i*(p+q):=by
 induction B with
 | zero=>exact⟨fun r hr=>(by simp at hr),by simp,by simp⟩
 | @succ i rows low B L ih =>
  obtain⟨i1,i2,i3⟩:=ih (by omega)
  have c1:=cr_ok T (by omega) (by omega) L nn
  refine⟨fun r hr=>?_,?_,?_⟩
  ·rcases List.mem_append.mp hr with z | z
   ·exact⟨(i1 r z).1,by have:=(i1 r z).2;omega⟩
   ·obtain⟨d1,d2,d3,d4,d5⟩:=c1 r z
    refine⟨⟨?_,d2,d3,d4⟩,by omega⟩
    rcases d1 with d | d <;> rw[d] <;> simp
  ·rw[List.map_append]
   refine List.nodup_append.mpr ⟨i2,cr_nodup T ne,fun x hx y hy e=>?_⟩
   obtain⟨r,hr,rfl⟩:=List.mem_map.mp hx
   obtain⟨r',hr',rfl⟩:=List.mem_map.mp hy
   have e2:r.2.1=r'.2.1:=congrArg Prod.snd e
   have w1:=(i1 r hr).2
   have w2:=(c1 r' hr').2.2.2.2
   rw[e2] at w1
   omega
  ·have p2:=T.p2
   have q2:=T.q2
   unfold cr
   simp only [List.length_append,List.length_map,List.length_range]
   have:((rows.length+(p.toNat+q.toNat):Nat):Int)=i*(p+q)+(p+q):=by omega
   rw[this]
   grind
def Ev (n:Nat):List Int→(Int→Int)→Prop
 | [],a=>∀ x,a x=0
 | [p],a=>∀ x,a (x+(n:Int)/p)=a x
 | p::q::_,a=>Sq ((n:Int)/p) ((n:Int)/q) a
theorem rv_per {n:Nat}{r:Int×Int×Int}(x:Int):Rg.rv n r (x+(n:Int)/r.1)=Rg.rv n r x:=by
 unfold Rg.rv
 rw[show x+(n:Int)/r.1-r.2.1=x-r.2.1+(n:Int)/r.1 by omega,Int.add_emod_right]
theorem Ev.add {n:Nat}{pl:List Int}{a b:Int→Int}(ha:Ev n pl a)(hb:Ev n pl b):Ev n pl fun x=>a x+b x:=by
 match pl,ha,hb with
 | [],ha,hb=>exact fun x=>by show a x+b x=0;rw[ha x,hb x];rfl
 | [p],ha,hb=>exact fun x=>by show a _+b _=a x+b x;rw[ha x,hb x]
 | p::q::_,ha,hb=>exact fun x=>by have:=ha x;have:=hb x;show a x+b x-(a _+b _)-(a _+b _)+(a _+b _)=0;omega
theorem Ev.zero {n:Nat}{pl:List Int}:Ev n pl fun _=>0:=by
 match pl with
 | []=>exact fun x=>rfl
 | [p]=>exact fun x=>rfl
 | p::q::_=>exact fun x=>rfl
theorem Ev.congr {n:Nat}{pl:List Int}{a b:Int→Int}(h:∀ x,a x=b x)(ha:Ev n pl a):Ev n pl b:=by
 have:a=b:=funext h
 rw[← this];exact ha
theorem Ev.rv {n:Nat}{pl:List Int}(l2:pl.length≤2){r:Int×Int×Int}(hr:r.1∈pl):Ev n pl fun x=>Rg.rv n r x:=by
 match pl,l2,hr with
 | [p],_,hr=>exact fun x=>by have e:=List.mem_singleton.mp hr;rw[← e];exact rv_per x
 | [p,q],_,hr =>
  intro x
  show Rg.rv n r x-Rg.rv n r (x+(n:Int)/p)-Rg.rv n r (x+(n:Int)/q)+Rg.rv n r (x+(n:Int)/p+(n:Int)/q)=0
  rcases List.mem_cons.mp hr with e | e
  ·rw[← e,rv_per,show x+(n:Int)/r.1+(n:Int)/q=x+(n:Int)/q+(n:Int)/r.1 by omega,rv_per];omega
  ·rw[← List.mem_singleton.mp e,rv_per,rv_per];omega
theorem Ev.rvs {n:Nat}{pl:List Int}(l2:pl.length≤2):∀ {rows:List (Int×Int×Int)},(∀ r∈rows,r.1∈pl)→Ev n pl fun x=>Rg.rvs n rows x
 | [],_=>Ev.zero.congr fun x=>rfl
 | r::rows,h=>by
  refine Ev.congr (fun x=>?_) ((Ev.rv l2 (h r (by simp))).add (Ev.rvs (rows:=rows) l2 fun r' hr=>h r' (List.mem_cons_of_mem _ hr)))
  show Rg.rv n r x+Rg.rvs n rows x=Rg.rvs n (r::rows) x
  unfold Rg.rvs;rw[List.map_cons,List.sum_cons]
def zFw (n:Nat)(a:Int→Int):List Int→List (Int×Int×Int)→Prop
 | [],rows=>rows=[]
 | [p],rows=>rows=(List.range ((n:Int)/p).toNat).map fun (h:Nat)=>(p,(h:Int),a h)
 | p::q::_,rows=>∃ m:Nat,Two n p q m∧Built p q (q*m) (p*m) a m rows
theorem one_val {n:Nat}{p:Int}{a:Int→Int}(hn:0 < n)(p2:2≤p)(d:p∣n)(ev:∀ x,a (x+(n:Int)/p)=a x)(x:Int):Rg.rvs n ((List.range ((n:Int)/p).toNat).map fun (h:Nat)=>(p,(h:Int),a h)) x=a x:=by
 obtain⟨st,est,st0,enp,_⟩:=Rg.w5 hn p2 d
 rw[est] at ev ⊢
 rw[Int.toNat_natCast]
 have x0:=Int.emod_nonneg x (show (st:Int)≠0 by omega)
 have x1:=Int.emod_lt_of_pos x (show (0:Int) < st by omega)
 unfold Rg.rvs
 rw[List.map_map]
 have e1:∀ k:Nat,((fun t=>Rg.rv (↑n) t x)∘fun (h:Nat)=>(p,(h:Int),a h)) k=if (x-k)%st=0 then a k else 0:=fun k=>by
  show Rg.rv n (p,(k:Int),a k) x=_
  unfold Rg.rv;rw[est]
 have ex:=Int.emod_add_mul_ediv x st
 rw[sum_one _ (k1:=(x%st).toNat) (by omega) (fun k hk ne=>by
  rw[e1,if_neg]
  intro z
  have:=dvd_m (Int.dvd_of_emod_eq_zero z) (by omega) (by omega)
  omega),e1,Int.toNat_of_nonneg x0,if_pos]
 ·have:=per_mul ev (x%st) (x/st)
  rw[← this]
  congr 1
  grind
 ·rw[show x-x%st=st*(x/st) by omega];exact Int.mul_emod_right _ _
theorem zFw.val {n:Nat}{pl:List Int}{a:Int→Int}(hn:0 < n)(l2:pl.length≤2)(hp:∀ p∈pl,2≤p∧p∣n)(per:Ld.Per n a){rows:List (Int×Int×Int)}(L:zFw n a pl rows)(ev:Ev n pl a)(x:Int):Rg.rvs n rows x=a x:=by
 match pl,l2,hp,L,ev with
 | [],_,_,L,ev=>rw[ev x,show rows=[] from L];rfl
 | [p],_,hp,L,ev =>
  rw[show rows=_ from L]
  exact one_val hn (hp p (by simp)).1 (hp p (by simp)).2 ev x
 | [p,q],_,_,L,ev =>
  obtain⟨m,T,B⟩:=L
  have sq:Sq ((n:Int)/p) ((n:Int)/q) a:=ev
  rw[T.s,T.t] at sq
  exact B.all T per sq x
theorem zFw.ok {n:Nat}{pl:List Int}{a:Int→Int}(hn:0 < n)(l2:pl.length≤2)(hp:∀ p∈pl,2≤p∧p∣n)(nd:pl.Nodup)(nn:∀ x,0≤a x){rows:List (Int×Int×Int)}(L:zFw n a pl rows) :
  (∀ r∈rows,RowOk n pl r)∧(rows.map fun t=>(t.1,t.2.1)).Nodup∧rows.length≤n*n:=by
 match pl,l2,hp,nd,L with
 | [],_,_,_,L=>rw[show rows=[] from L];exact⟨fun r hr=>(by simp at hr),by simp,by simp⟩
 | [p],_,hp,_,L =>
  rw[show rows=_ from L]
  have p2:=(hp p (by simp)).1
  obtain⟨st,est,st0,enp,_⟩:=Rg.w5 hn p2 (hp p (by simp)).2
  rw[est,Int.toNat_natCast]
  have stn:st≤n:=by rw[enp];exact Nat.le_mul_of_pos_left _ (by omega)
  refine⟨fun r hr=>?_,?_,?_⟩
  ·obtain⟨h,hh,rfl⟩:=List.mem_map.mp hr
   have:=List.mem_range.mp hh
   exact⟨by simp,by show (0:Int)≤h;omega,by show (h:Int) < n;omega,nn _⟩
  ·rw[List.map_map]
   exact jM _ (fun i j e=>by have:(i:Int)=j:=congrArg Prod.snd e;omega) _
  ·rw[List.length_map,List.length_range]
   exact Nat.le_trans stn (Nat.le_mul_of_pos_left _ hn)
 | [p,q],_,hp,nd,L =>
  obtain⟨m,T,B⟩:=L
  have ne:p≠q:=fun e=>by rw[e] at nd;simp at nd
  obtain⟨b1,b2,b3⟩:=B.ok T ne nn (Nat.le_refl _)
  refine⟨fun r hr=>(b1 r hr).1,b2,?_⟩
  have p2:=T.p2
  have q2:=T.q2
  have le:(m:Int)*(p+q)≤n*n:=by
   have h1:p+q≤p*q:=by
    have:=Int.mul_nonneg (show 0≤p-2 by omega) (show 0≤q-2 by omega)
    have h3:(p-2)*(q-2)=p*q-2*p-2*q+4:=by grind
    rcases Int.lt_or_le p 3 with g | g
    ·have:p=2:=by omega
     subst this
     omega
    ·have h4:=Int.mul_le_mul_of_nonneg_right g (show 0≤q by omega)
     rcases Int.lt_or_le q 3 with g2 | g2
     ·have:q=2:=by omega
      subst this
      omega
     ·omega
   have h2:=Int.mul_le_mul_of_nonneg_left h1 (show (0:Int)≤m by omega)
   have h3:(m:Int)*(p*q)=n:=by rw[T.e];grind
   have h4:=Int.mul_le_mul_of_nonneg_left (show (1:Int)≤n by omega) (show (0:Int)≤n by omega)
   omega
  have:((rows.length:Nat):Int)≤((n*n:Nat):Int):=by rw[b3,Int.natCast_mul];exact le
  omega
theorem zFn {n:Nat}{p q:Int}{ps:List (Int×Int)}(hn:0 < n)(hp:Parts n ps)(e:ps.map Prod.fst=[p,q]):∃ m:Nat,Two n p q m∧(n:Int)/(p*q)=m:=by
 match ps,e with
 | [x,y],e =>
  have e1:x.1=p:=(List.cons.inj e).1
  have e2:y.1=q:=(List.cons.inj (List.cons.inj e).2).1
  have rx:=hp.row x (by simp)
  have ry:=hp.row y (by simp)
  have lt:=(List.pairwise_cons.mp hp.srt).1 y (by simp)
  rw[e1,e2] at lt
  have P1:Prm p:=by rw[← e1];exact rx.pr
  have P2:Prm q:=by rw[← e2];exact ry.pr
  have p2:=P1.1
  have q2:=P2.1
  have dp:p∣(n:Int):=by rw[← e1];exact ((Pt.vG hp x).mp (by simp)).2.1
  have dq:q∣(n:Int):=by rw[← e2];exact ((Pt.vG hp y).mp (by simp)).2.1
  have g1:=Ps.G_pr P1 P2 (by omega)
  have g2:=Ps.G_pr P2 P1 (by omega)
  have cop:Nat.Coprime p.natAbs q.natAbs:=by
   have nd:¬ p∣q:=fun d=>by have:=Pt.prm_dvd P1 P2 d;omega
   exact Pt.copr P1 nd
  obtain⟨m,hm⟩:=Rs.cdvd cop dp dq
  have pq:0 < p*q:=Int.mul_pos (by omega) (by omega)
  have m0:0 < m:=by
   rcases Int.lt_or_le 0 m with g | g
   ·exact g
   ·have:=Int.mul_le_mul_of_nonneg_left g (show 0≤p*q by omega)
    omega
  have em:((m.toNat:Nat):Int)=m:=by omega
  have i1:=Ld.inv_of (st:=q) (n:=p.toNat) (by omega) (by rw[show ((p.toNat:Nat):Int)=p by omega];exact g1)
  have i2:=Ld.inv_of (st:=p) (n:=q.toNat) (by omega) (by rw[show ((q.toNat:Nat):Int)=q by omega];exact g2)
  rw[show ((p.toNat:Nat):Int)=p by omega] at i1
  rw[show ((q.toNat:Nat):Int)=q by omega] at i2
  refine⟨m.toNat,⟨p2,q2,by omega,by rw[em];exact hm,cop,i1,i2⟩,?_⟩
  rw[em,hm];exact Int.mul_ediv_cancel_left _ (by omega)
theorem zDv (n:Int)(x:Int):∀ rows:List (Int×Int×Int),Rg.rvs n (rows.filter fun r=>!decide (r.2.2=0)) x=Rg.rvs n rows x
 | []=>rfl
 | r::rows=>by
  have e:Rg.rvs n (r::rows) x=Rg.rv n r x+Rg.rvs n rows x:=by unfold Rg.rvs;rw[List.map_cons,List.sum_cons]
  rw[List.filter_cons]
  by_cases c:r.2.2=0
  ·rw[if_neg (by simp [c]),zDv n x rows,e]
   have:Rg.rv n r x=0:=by unfold Rg.rv;rw[c];split <;> rfl
   omega
  ·rw[if_pos (by simp [c])]
   have e2:Rg.rvs n (r::rows.filter fun r=>!decide (r.2.2=0)) x=Rg.rv n r x+Rg.rvs n (rows.filter fun r=>!decide (r.2.2=0)) x:=by unfold Rg.rvs;rw[List.map_cons,List.sum_cons]
   rw[e2,zDv n x rows,e]
theorem Two.few {n m:Nat}{p q:Int}(T:Two n p q m)(ne:p≠q):(m:Int)*(p+q)≤n:=by
 have p2:=T.p2
 have q2:=T.q2
 have h1:p+q≤p*q:=by
  rcases Int.lt_or_le p 3 with g | g
  ·have:p=2:=by omega
   subst this
   omega
  ·have h4:=Int.mul_le_mul_of_nonneg_right g (show 0≤q by omega)
   have h5:=Int.mul_le_mul_of_nonneg_left q2 (show 0≤p by omega)
   omega
 have h2:=Int.mul_le_mul_of_nonneg_left h1 (show (0:Int)≤m by omega)
 have h3:(m:Int)*(p*q)=n:=by rw[T.e];grind
 omega
theorem Built.len {p q s t:Int}{a:Int→Int}(p2:0≤p)(q2:0≤q){i:Nat}{rows:List (Int×Int×Int)}(B:Built p q s t a i rows):(rows.length:Int)=i*(p+q):=by
 induction B with
 | zero=>simp
 | @succ i rows low B L ih =>
  unfold cr
  simp only [List.length_append,List.length_map,List.length_range]
  have:((rows.length+(p.toNat+q.toNat):Nat):Int)=i*(p+q)+(p+q):=by omega
  rw[this]
  grind
theorem per_rv {n:Nat}{p:Int}(hn:1≤n)(p2:2≤p)(d:p∣n)(h c:Int):Ld.Per n fun x=>Rg.rv n (p,h,c) x:=fun x y e=>by
 obtain⟨st,est,st0,enp,_⟩:=Rg.w5 hn p2 d
 show Rg.rv n (p,h,c) x=Rg.rv n (p,h,c) y
 unfold Rg.rv
 rw[est]
 have sn:(st:Int)∣n:=⟨p.toNat,by rw[enp,Int.natCast_mul,Int.mul_comm]⟩
 have:(x-h)%st=(y-h)%st:=by
  rw[← Int.emod_emod_of_dvd (x-h) sn,← Int.emod_emod_of_dvd (y-h) sn,Int.sub_emod x,e,← Int.sub_emod]
 show (if (x-h)%st=0 then c else 0)=if (y-h)%st=0 then c else 0
 rw[this]
theorem S_rv {n:Nat}{p:Int}(hn:1≤n)(p2:2≤p)(d:p∣n)(h c:Int):Ld.S n (fun x=>Rg.rv n (p,h,c) x)=p*c:=by
 obtain⟨st,est,st0,enp,_⟩:=Rg.w5 hn p2 d
 rw[← Ld.S_shift (by omega) (per_rv hn p2 d h c) h]
 have e:Ld.S n (fun j=>Rg.rv n (p,h,c) (j+h))=Ld.S (st*p.toNat) (fun j=>if j%st=0 then c else 0):=by
  rw[Nat.mul_comm st,← enp]
  refine Ld.jO fun j _=>?_
  unfold Rg.rv
  rw[est]
  show (if ((j:Int)+h-h)%st=0 then c else 0)=_
  rw[show (j:Int)+h-h=j by omega]
 rw[e,Ld.S_mult st0 (fun _=>c),Pl.S_const,Int.toNat_of_nonneg (by omega)]
theorem S_rvs {n:Nat}{pl:List Int}(hn:1≤n)(hp:∀ p∈pl,2≤p∧p∣n):∀ {rows:List (Int×Int×Int)},(∀ r∈rows,r.1∈pl)→Ld.S n (fun x=>Rg.rvs n rows x)=(rows.map fun r=>r.1*r.2.2).sum
 | [],_=>by
  have:(fun x=>Rg.rvs n [] x)=fun _=>0:=funext fun x=>rfl
  rw[this,Ld.S_zero];rfl
 | (p,h,c)::rows,k=>by
  have e:(fun x=>Rg.rvs n ((p,h,c)::rows) x)=fun x=>Rg.rv n (p,h,c) x+Rg.rvs n rows x:=funext fun x=>by unfold Rg.rvs;rw[List.map_cons,List.sum_cons]
  have q:=hp p (k (p,h,c) (by simp))
  rw[e,Ld.S_add,S_rv hn q.1 q.2,S_rvs hn hp fun r hr=>k r (List.mem_cons_of_mem _ hr),List.map_cons,List.sum_cons]
theorem sum_S {b:List Int}{n:Nat}(h:b.length=n)(hn:1≤n):b.sum=Ld.S n (Ld.at' b):=by
 rw[← Pl.S_sum]
 congr 1
 refine List.ext_getElem? fun i=>?_
 by_cases c:i < n
 ·rw[List.getElem?_map,List.getElem?_range c]
  have:=Ld.zAv (a:=b) (x:=(i:Int)) (by omega)
  rw[h,Int.emod_eq_of_lt (by omega) (by omega),Int.toNat_natCast] at this
  exact this
 ·rw[List.getElem?_eq_none (by omega),List.getElem?_eq_none (by simp;omega)]
def plus:List Int→List Int→List Int
 | a::x,b::y=>(a+b)::plus x y
 | _,_=>[]
theorem parts_ne {n:Nat}{ps:List (Int×Int)}(h:Parts n ps)(n2:n≠1):ps.map Prod.fst≠[]:=fun e=>by
 have e2:ps=[]:=by simpa using e
 have:=h.prd
 rw[e2] at this
 have:(1:Int)=n:=this
 omega
end Sk
set_option linter.all false
namespace Se
open Sk
def Dis (n:Int)(r s:Int×Int×Int):Prop:=∀ x:Int,(x-r.2.1)%(n/r.1)=0→¬ (x-s.2.1)%(n/s.1)=0
theorem rvs_cons (n:Int)(r:Int×Int×Int)(rows:List (Int×Int×Int))(x:Int):Rg.rvs n (r::rows) x=Rg.rv n r x+Rg.rvs n rows x:=by
 unfold Rg.rvs;rw[List.map_cons,List.sum_cons]
theorem rvs_none {n x:Int}:∀ {rows:List (Int×Int×Int)},(∀ s∈rows,¬ (x-s.2.1)%(n/s.1)=0)→Rg.rvs n rows x=0
 | [],_=>rfl
 | r::rows,h=>by
  rw[rvs_cons,rvs_none fun s hs=>h s (List.mem_cons_of_mem _ hs)]
  unfold Rg.rv
  rw[if_neg (h r (by simp))];rfl
theorem rvs01 {n:Int}:∀ {rows:List (Int×Int×Int)},(∀ r∈rows,r.2.2=1)→rows.Pairwise (Dis n)→∀ x,Rg.rvs n rows x=0∨Rg.rvs n rows x=1
 | [],_,_,x=>.inl rfl
 | r::rows,h,pw,x=>by
  rw[rvs_cons]
  have pc:=List.pairwise_cons.mp pw
  by_cases c:(x-r.2.1)%(n/r.1)=0
  ·rw[rvs_none fun s hs=>pc.1 s hs x c]
   unfold Rg.rv
   rw[if_pos c,h r (by simp)];exact .inr rfl
  ·have e:Rg.rv n r x=0:=by unfold Rg.rv;rw[if_neg c]
   rw[e,Int.zero_add]
   exact rvs01 (fun s hs=>h s (List.mem_cons_of_mem _ hs)) pc.2 x
def F (Q:Nat)(t:Int)(i:Nat):Int:=((i/Q:Nat):Int)+1+((i%Q:Nat):Int)*t
theorem cl_snoc {Q:Nat}(hq:0 < Q)(t:Int)(f:Nat):(List.range ((f+1)*Q)).map (F Q t)=(List.range (f*Q)).map (F Q t) ++ (List.range Q).map fun (k:Nat)=>((f:Int)+1)+(k:Int)*t:=by
 rw[Nat.succ_mul,List.range_add,List.map_append,List.map_map]
 congr 1
 refine List.map_congr_left fun k hk=>?_
 have kq:=List.mem_range.mp hk
 show F Q t (f*Q+k)=_
 unfold F
 rw[Nat.mul_comm f Q,Nat.mul_add_div hq,Nat.mul_add_mod,Nat.div_eq_of_lt kq,Nat.mod_eq_of_lt kq,Nat.add_zero]
theorem small0 {m c:Int}(d:m∣c)(h1:-m < c)(h2:c < m):c=0:=by
 obtain⟨k,hk⟩:=d
 have m0:0 < m:=by omega
 have:k=0:=by
  rcases Int.lt_trichotomy k 0 with g | g | g
  ·have:=Int.mul_le_mul_of_nonneg_left (show k≤-1 by omega) (show 0≤m by omega)
   omega
  ·exact g
  ·have:=Int.mul_le_mul_of_nonneg_left (show 1≤k by omega) (show 0≤m by omega)
   omega
 rw[hk,this,Int.mul_zero]
theorem both {d x a b:Int}(h1:(x-a)%d=0)(h2:(x-b)%d=0):d∣a-b:=by
 have:=Int.dvd_sub (Int.dvd_of_emod_eq_zero h2) (Int.dvd_of_emod_eq_zero h1)
 rwa [show x-b-(x-a)=a-b by omega] at this
theorem small_dis {n m:Nat}{p q:Int}(T:Two n p q m){i j:Nat}(hi:i < m*q.toNat)(hj:j < m*q.toNat)(ne:i≠j):Dis n (p,F q.toNat (p*m) i,1) (p,F q.toNat (p*m) j,1):=by
 intro x h1 h2
 have q2:=T.q2
 have m0:=T.m0
 have hQ:0 < q.toNat:=by omega
 have d:=both h1 h2
 change (n:Int)/p∣F q.toNat (p*m) i-F q.toNat (p*m) j at d
 rw[T.s] at d
 unfold F at d
 have i1:i/q.toNat < m:=Nat.div_lt_of_lt_mul (by rw[Nat.mul_comm];exact hi)
 have j1:j/q.toNat < m:=Nat.div_lt_of_lt_mul (by rw[Nat.mul_comm];exact hj)
 have i2:=Nat.mod_lt i hQ
 have j2:=Nat.mod_lt j hQ
 have ei:=Nat.div_add_mod i q.toNat
 have ej:=Nat.div_add_mod j q.toNat
 generalize i/q.toNat=u at *
 generalize j/q.toNat=v at *
 generalize i%q.toNat=a at *
 generalize j%q.toNat=b at *
 obtain⟨z,hz⟩:=d
 have dm:(m:Int)∣(u:Int)-v:=⟨q*z-(a:Int)*p+b*p,by grind⟩
 have uv:=small0 dm (by omega) (by omega)
 have e2:(m:Int)*(q*z)=m*(((a:Int)-b)*p):=by
  have:(u:Int)=v:=by omega
  rw[this] at hz
  grind
 have e3:=Int.eq_of_mul_eq_mul_left (show (m:Int)≠0 by omega) e2
 have dq:q∣(a:Int)-b:=by
  have d1:q∣p*((a:Int)-b):=⟨z,by rw[e3,Int.mul_comm]⟩
  exact Rs.w6 T.cop.symm d1
 have ab:=small0 dq (by omega) (by omega)
 have u2:u=v:=by omega
 have a2:a=b:=by omega
 subst u2 a2
 exact ne (by omega)
theorem great_dis {n m:Nat}{p q:Int}(T:Two n p q m){i j:Nat}(hi:(i:Int) < p)(hj:(j:Int) < p)(ne:i≠j):Dis n (q,(i:Int)*(q*m),1) (q,(j:Int)*(q*m),1):=by
 intro x h1 h2
 have m0:=T.m0
 have d:=both h1 h2
 change (n:Int)/q∣(i:Int)*(q*m)-(j:Int)*(q*m) at d
 rw[T.t] at d
 obtain⟨z,hz⟩:=d
 have e2:(m:Int)*(p*z)=m*(((i:Int)-j)*q):=by grind
 have e3:=Int.eq_of_mul_eq_mul_left (show (m:Int)≠0 by omega) e2
 have d1:p∣q*((i:Int)-j):=⟨z,by rw[e3,Int.mul_comm]⟩
 have:=small0 (Rs.w6 T.cop d1) (by omega) (by omega)
 exact ne (by omega)
theorem cross_dis {n m:Nat}{p q:Int}(T:Two n p q m){i j:Nat}(hi:(i:Int) < ((m:Int)-1)*q):Dis n (p,F q.toNat (p*m) i,1) (q,(j:Int)*(q*m),1):=by
 intro x h1 h2
 have q2:=T.q2
 have m0:=T.m0
 have hQ:0 < q.toNat:=by omega
 obtain⟨z1,e1⟩:=Int.dvd_of_emod_eq_zero h1
 obtain⟨z2,e2⟩:=Int.dvd_of_emod_eq_zero h2
 change x-F q.toNat (p*m) i=(n:Int)/p*z1 at e1
 change x-(j:Int)*(q*m)=(n:Int)/q*z2 at e2
 rw[T.s] at e1
 rw[T.t] at e2
 unfold F at e1
 have lt:i/q.toNat < m-1:=by
  refine Nat.div_lt_of_lt_mul ?_
  have:(i:Int) < ((q.toNat*(m-1):Nat):Int):=by
   rw[Int.natCast_mul,Int.toNat_of_nonneg (by omega),Int.natCast_sub (by omega),Int.mul_comm];exact hi
  omega
 generalize i/q.toNat=u at *
 generalize i%q.toNat=a at *
 have dm:(m:Int)∣(u:Int)+1:=⟨p*z2+j*q-q*z1-a*p,by grind⟩
 have:=small0 dm (by omega) (by omega)
 omega
def rows2 (p q:Int)(m a b:Nat):List (Int×Int×Int):=((List.range a).map fun i=>(p,F q.toNat (p*m) i,(1:Int))) ++ (List.range b).map fun (k:Nat)=>(q,(k:Int)*(q*m),(1:Int))
theorem pw_range {α:Type}{R:α→α→Prop}(f:Nat→α)(a:Nat)(h:∀ i j,i < a→j < a→i≠j→R (f i) (f j)):((List.range a).map f).Pairwise R:=by
 rw[List.pairwise_map]
 refine List.Pairwise.imp_of_mem ?_ (List.pairwise_lt_range (n:=a))
 intro i j hi hj lt
 exact h i j (List.mem_range.mp hi) (List.mem_range.mp hj) (by omega)
theorem rows2_dis {n m:Nat}{p q:Int}(T:Two n p q m){a b:Nat}(ha:(a:Int)≤m*q)(hb:(b:Int)≤p)(hab:b=0∨(a:Int)≤((m:Int)-1)*q):(rows2 p q m a b).Pairwise (Dis n):=by
 have q2:=T.q2
 have aq:a≤m*q.toNat:=by
  have:(a:Int)≤((m*q.toNat:Nat):Int):=by rw[Int.natCast_mul,Int.toNat_of_nonneg (by omega)];exact ha
  omega
 refine List.pairwise_append.mpr ⟨pw_range _ a fun i j hi hj ne=>small_dis T (by omega) (by omega) ne,pw_range _ b fun i j hi hj ne=>great_dis T (by omega) (by omega) ne,fun r hr s hs=>?_⟩
 obtain⟨i,hi,rfl⟩:=List.mem_map.mp hr
 obtain⟨j,hj,rfl⟩:=List.mem_map.mp hs
 have:=List.mem_range.mp hi
 have:=List.mem_range.mp hj
 rcases hab with z | z
 ·omega
 ·exact cross_dis T (by omega)
theorem rows2_one {p q:Int}{m a b:Nat}:∀ r∈rows2 p q m a b,r.2.2=1∧r.1∈[p,q]:=fun r hr=>by
 rcases List.mem_append.mp hr with h | h
 ·obtain⟨i,_,rfl⟩:=List.mem_map.mp h;exact⟨rfl,by simp⟩
 ·obtain⟨i,_,rfl⟩:=List.mem_map.mp h;exact⟨rfl,by simp⟩
theorem jB (c:Int):∀ a:Nat,((List.range a).map fun _=>c).sum=a*c
 | 0=>by simp
 | a+1=>by
  rw[List.range_succ,List.map_append,List.sum_append,jB c a]
  show (a:Int)*c+(c+0)=((a+1:Nat):Int)*c
  rw[Int.natCast_add];grind
theorem rows2_sum {p q:Int}{m a b:Nat}:((rows2 p q m a b).map fun r=>r.1*r.2.2).sum=a*p+b*q:=by
 unfold rows2
 rw[List.map_append,List.sum_append,List.map_map,List.map_map]
 have e1:((List.range a).map ((fun r:Int×Int×Int=>r.1*r.2.2)∘fun i=>(p,F q.toNat (p*m) i,(1:Int))))=(List.range a).map fun _=>p:=List.map_congr_left fun i _=>by show p*1=p;omega
 have e2:((List.range b).map ((fun r:Int×Int×Int=>r.1*r.2.2)∘fun (k:Nat)=>(q,(k:Int)*(q*m),(1:Int))))=(List.range b).map fun _=>q:=List.map_congr_left fun i _=>by show q*1=q;omega
 rw[e1,e2,jB,jB]
def rows1 (p:Int)(c:Nat):List (Int×Int×Int):=(List.range c).map fun (i:Nat)=>(p,(i:Int),(1:Int))
theorem rows1_dis {n:Nat}{p:Int}{c:Nat}(hc:(c:Int)≤(n:Int)/p):(rows1 p c).Pairwise (Dis n):=by
 refine pw_range _ c fun i j hi hj ne x h1 h2=>?_
 have:=small0 (both h1 h2) (by show -((n:Int)/p) < (i:Int)-j;omega) (by show (i:Int)-j < (n:Int)/p;omega)
 exact ne (by change (i:Int)-j=0 at this;omega)
theorem rows1_one {p:Int}{c:Nat}:∀ r∈rows1 p c,r.2.2=1∧r.1∈[p]:=fun r hr=>by
 obtain⟨i,_,rfl⟩:=List.mem_map.mp hr;exact⟨rfl,by simp⟩
theorem rows1_sum {p:Int}{c:Nat}:((rows1 p c).map fun r=>r.1*r.2.2).sum=c*p:=by
 unfold rows1
 rw[List.map_map]
 have e1:((List.range c).map ((fun r:Int×Int×Int=>r.1*r.2.2)∘fun (i:Nat)=>(p,(i:Int),(1:Int))))=(List.range c).map fun _=>p:=List.map_congr_left fun i _=>by show p*1=p;omega
 rw[e1,jB]
structure Set (n:Nat)(pl:List Int)(many:Int)(b:List Int):Prop where
 len:b.length=n
 zo:∀ x,Ld.at' b x=0∨Ld.at' b x=1
 sum:b.sum=many
 ev:Ev n pl (Ld.at' b)
theorem set_of {n:Nat}{pl:List Int}{many:Int}{b:List Int}{rows:List (Int×Int×Int)}(n1:1≤n)(l2:pl.length≤2)(hp:∀ p∈pl,2≤p∧p∣n)(one:∀ r∈rows,r.2.2=1∧r.1∈pl)(dis:rows.Pairwise (Dis n))(sm:(rows.map fun r=>r.1*r.2.2).sum=many)
  (lb:b.length=n)(e:∀ x,Ld.at' b x=Rg.rvs n rows x):Set n pl many b:=by
 refine⟨lb,fun x=>by rw[e];exact rvs01 (fun r hr=>(one r hr).1) dis x,?_,(Ev.rvs l2 fun r hr=>(one r hr).2).congr fun x=>(e x).symm⟩
 rw[sum_S lb n1,← sm,← S_rvs n1 hp fun r hr=>(one r hr).2]
 congr 1
 exact funext e
theorem most {n m:Nat}{p q:Int}(T:Two n p q m){a b many:Int}(a0:0≤a)(b0:0≤b)(e:a*p+b*q=many)(can:Ps.Can [p,q] ((n:Int)-many)):a≤m*q∧(0 < b→a≤((m:Int)-1)*q):=by
 obtain⟨a',b',a0',b0',e'⟩:=Ps.can2.mp can
 have p2:=T.p2
 have q2:=T.q2
 have en:=T.e
 have sum:(a+a')*p+(b+b')*q=p*q*m:=by rw[← en];grind
 have cmp:∀ c:Int,a*p≤c*p→a≤c:=fun c h=>Int.le_of_mul_le_mul_right h (by omega)
 have x1:0≤a'*p:=Int.mul_nonneg a0' (by omega)
 have x2:0≤(b+b')*q:=Int.mul_nonneg (by omega) (by omega)
 refine⟨cmp _ (by grind),fun bp=>cmp _ ?_⟩
 have d:p∣q*(b+b'):=⟨q*m-(a+a'),by grind⟩
 have d2:=Rs.w6 T.cop d
 have le:=Int.le_of_dvd (by omega) d2
 have le2:=Int.mul_le_mul_of_nonneg_right le (show 0≤q by omega)
 grind
theorem most1 {n:Nat}{p c many:Int}(p2:2≤p)(d:p∣n)(e:c*p=many)(can:Ps.Can [p] ((n:Int)-many)):c≤(n:Int)/p:=by
 have h:=(Ps.can1 p2).mp can
 obtain⟨k,hk⟩:=d
 rw[hk,Int.mul_ediv_cancel_left _ (by omega)]
 have:c*p≤k*p:=by rw[hk] at h;rw[e,Int.mul_comm k p];omega
 exact Int.le_of_mul_le_mul_right this (by omega)
end Se
set_option Elab.async false
set_option linter.all false
set_option maxRecDepth 100000
set_option maxHeartbeats 5000000
namespace L2
open PySem PySem.Spec PyProof.Rows PySem.SeqAt
section
variable {X:Cx}
def CDivE (i j:Int):Prop:=j≠0∧j∣i∧j.natAbs.log2 < 9000
theorem op_fdivE:OpR X (binaryOp .FloorDiv) (rI CDivE fun i j=>.int (i/j)):=opI fun i j _ _ _ _ _ hc q=>by
 have e:i/j=i.fdiv j:=(Int.fdiv_eq_ediv_of_dvd hc.2.1).symm
 rw[e] at q
 exact floordiv_int hc.1 q (.inl (PyProof.noPylong_of_log2 hc.2.2))
end
theorem divE_of {i j:Int}{B:Nat}(h0:j≠0)(hd:j∣i)(hb:j.natAbs < 2^B)(hB:B≤9000):CDivE i j:=⟨h0,hd,by
 have:=(Nat.log2_lt (show j.natAbs≠0 by omega)).mpr hb
 omega⟩
theorem step_rng0 {n p s:Nat}(hs:0 < s)(hp:0 < p)(en:n=p*s):sliceRange (sliceBounds none none (some (s:Int)) n).1 (sliceBounds none none (some (s:Int)) n).2.1 (sliceBounds none none (some (s:Int)) n).2.2=(List.range p).map fun t=>0+t*s:=by
 have h0:(sliceBounds none none (some (s:Int)) n).1=((0:Nat):Int):=by unfold sliceBounds;simp only [Option.getD_some,show (s:Int) > 0 by omega,if_true];rfl
 have g0:(sliceBounds (some ((0:Nat):Int)) none (some (s:Int)) n).1=((0:Nat):Int):=by unfold sliceBounds;simp only [Option.getD_some,show (s:Int) > 0 by omega,if_true];omega
 have e1:(sliceBounds none none (some (s:Int)) n).2.1=(sliceBounds (some ((0:Nat):Int)) none (some (s:Int)) n).2.1:=rfl
 have e2:(sliceBounds none none (some (s:Int)) n).2.2=(sliceBounds (some ((0:Nat):Int)) none (some (s:Int)) n).2.2:=rfl
 have k:=step_rng (lo:=0) hs hp en hs
 rw[h0,e1,e2,← g0];exact k
section
variable {X:Cx}{e:Expr}{te:TE}{es:Expr}{ts:TO}{pos p2 p3:Pos}
def tSlZ (K:PySem.W.Frag)(te:TE)(ts:TO):TE:=fun σ H Q=>te σ H fun x H1=>ts σ H1 fun st H3=>∃ (a:Addr)(ns:List Int)(n p s:Nat),x=.ref a∧st=some (s:Int)∧SqL K H3 a (ns.map V.int)∧ns.length=n∧0 < s∧0 < p∧n=p*s∧∀ q,H3 q=none→Q (.ref q) (upd H3 q (.lst (((List.range p).map fun (t:Nat)=>Ld.at' ns (((0:Nat):Int)+(t:Int)*s)).map V.int)))
theorem pe_sliceZ {K:PySem.W.Frag}(hK:X.K=K)(he:PE X e te)(hst:PO X (some es) ts):PE X (.Subscript e (.Slice none none (some es) p2) pos) (tSlZ K te ts):=by
 subst hK
 intro pins s σ H Q I h
 refine Subscript_ (thn (he pins s σ H _ I h) fun v s1 ⟨x,H1,I1,r1,q1⟩=>?_)
 refine wpAny_Slice ?_
 rw[evalPart_none]
 refine wpAny_pure ?_
 refine wpAny_pure ?_
 refine thn (hst pins s1 σ H1 _ I1 q1) fun vt s3 ⟨t,H3,I3,pt,q3⟩=>?_
 obtain⟨a,ns,n,pp,s0,rfl,est,hq,hn,hs0,hp0,en,q⟩:=q3
 subst est
 cases r1
 obtain⟨its,rv,ht,hz⟩:=I3.list hq
 have I4:Inv X pins σ H3 { s3 with heap:=s3.heap.push { cls:=.type "slice",data:=.fields #[.none,.none,vt] } }:=I3.kept (t':=s3.toks) fun b ob q=>Heap.get?_push_of_some _ q
 have ht4:({ s3 with heap:=s3.heap.push { cls:=.type "slice",data:=.fields #[.none,.none,vt] } }:Shared).heap.IsList a its.toArray:=by
  obtain⟨its',rv',ht',_⟩:=I4.list hq
  have:its'=its:=by
   have e1:=ht.isList
   obtain⟨o,ho,hc,n,hd⟩:=e1
   obtain⟨o',ho',hc',n',hd'⟩:=ht'.isList
   have ho2:=Heap.get?_push_of_some { cls:=.type "slice",data:=.fields #[.none,.none,vt] } ho
   rw[show (s3.heap.push { cls:=.type "slice",data:=.fields #[.none,.none,vt] }).get? a=_ from ho'] at ho2
   cases ho2
   rw[hd'] at hd
   injection hd with hd
   have:=congrArg Array.toList hd
   simpa using this
  rw[← this];exact ht'.isList
 have len:=rv.length
 rw[List.length_map] at len
 show wpAny (model X.prog X.w) X.A (subscriptTail e (.Slice none none (some es) p2) (.ref a) (.ref s3.heap.objs.size)) (EP X pins σ Q) X.xe { s3 with heap:=s3.heap.push { cls:=.type "slice",data:=.fields #[.none,.none,vt] } }
 refine tail_any (ops:=[.ref a,.ref s3.heap.objs.size]) (T:="list") ht4.typeIs slot_list_getitem.lookup ?_ (by with_unfolding_all rfl)
 rw[List.length_map] at hz
 refine wpAny_getItem_list_slice (st:=some (s0:Int)) ht4 (Heap.IsSliceOf.new ..) .none .none pt (by intro z;injection z with z;omega) ?_ (by rw[List.size_toArray,← len];exact hz)
 have esz:its.toArray.size=n:=by rw[List.size_toArray,← len,hn]
 have pv:=pick_vals rv ((List.range pp).map fun t=>0+t*s0)
 rw[pick_at hn en hs0] at pv
 unfold slicePick
 rw[esz,step_rng0 hs0 hp0 en]
 have ml:(((List.range pp).map fun (t:Nat)=>Ld.at' ns (((0:Nat):Int)+(t:Int)*s0)).map V.int).length≤sizeLine:=by
  rw[List.length_map,List.length_map,List.length_range]
  have:pp*1≤pp*s0:=Nat.mul_le_mul_left _ hs0
  omega
 refine⟨.ref _,_,I4.laid (t':=s3.toks) (o:=.lst (((List.range pp).map fun (t:Nat)=>Ld.at' ns (((0:Nat):Int)+(t:Int)*s0)).map V.int)) (fun b ob q=>Heap.get?_push_of_some _ q) (Nat.le_refl _) ?_,rfl,q _ (I4.hok.fresh (Nat.le_refl _))⟩
 exact⟨ml,_,0,pv,Heap.get?_push_size _ rfl⟩
end
theorem zR.seqT {K:PySem.W.Frag}{H H':Hp}{a:Addr}{xs:List V}(e:zR H H')(h:SqT K H a xs):SqT K H' a xs:=by
 rcases h with (h | ⟨o,h⟩) | h
 ·exact .inl (.inl (e _ _ h))
 ·exact .inl (.inr ⟨o,e _ _ h⟩)
 ·exact .inr h
def dV (m:Int)(ws:List Int)(c:Int):PyData:=.tuple [.int m,.tuple (ws.map PyData.int),.int c]
def zEo (H:Hp)(t:Addr)(m:Int)(ws:List Int)(c:Int):Prop:=∃ u,H t=some (.tup [.int m,.ref u,.int c])∧H u=some (.tup (ws.map V.int))
theorem zEo.same {H H':Hp}{t:Addr}{m c:Int}{ws:List Int}(h:zEo H t m ws c)(s:zR H H'):zEo H' t m ws c:=let ⟨u,a,b⟩:=h;⟨u,s _ _ a,s _ _ b⟩
theorem rd_val {K:PySem.W.Frag}{H:Hp}{t:Addr}{m c:Int}{ws:List Int}(h:zEo H t m ws c):RdD K H (.ref t) (dV m ws c):=let ⟨u,a,b⟩:=h;.tup (SqT.of a) (.cons (.int _) (.cons (.tup (SqT.of b) (rd_ints ws)) (.cons (.int _) .nil)))
theorem dep_intsV:∀ l:List Int,PyData.depthAll (l.map PyData.int)≤1
 | []=>by simp [PyData.depthAll]
 | a::r=>by have:=dep_intsV r;simp only [List.map_cons,PyData.depthAll,PyData.depth];omega
theorem lay_intsV (ws:List Int):PyData.canLayAll0 (ws.map PyData.int)=true:=by
 have h:=PySem.W.shaped_ints ws
 unfold shaped at h
 rw[Bool.and_eq_true] at h
 have:=h.1
 simpa only [PyData.canLay0] using this
theorem shp_val (m:Int)(ws:List Int)(c:Int):shaped (dV m ws c)=true:=by
 have h1:=dep_intsV ws
 unfold shaped dV
 rw[Bool.and_eq_true]
 refine⟨by simp [PyData.canLay0,PyData.canLayAll0,lay_intsV ws],decide_eq_true ?_⟩
 simp only [PyData.depth,PyData.depthAll]
 omega
theorem mix_val (m c m' c':Int)(ws ws':List Int):noMix (dV m ws c) (dV m' ws' c')=true:=by
 unfold dV
 simp only [noMix,noMixAll]
 rw[PySem.W.noMix_ints ws ws']
 simp [noMix,noMixAll]
theorem sam_val (m c m' c':Int)(ws ws':List Int):same (dV m ws c) (dV m' ws' c')=decide (m=m'∧ws=ws'∧c=c'):=by
 unfold dV
 simp only [same,sameAll]
 rw[PySem.W.same_ints ws ws']
 by_cases h1:m=m' <;> by_cases h2:ws=ws' <;> by_cases h3:c=c' <;> simp [h1,h2,h3,same,sameAll]
theorem eqV_of {K:PySem.W.Frag}{H:Hp}{a b:Addr}{m c m' c':Int}{ws ws':List Int}{Q:VK}(h1:zEo H a m ws c)(h2:zEo H b m' ws' c')(q:Q (.bl (decide (m=m'∧ws=ws'∧c=c'))) H):rEqD K (.ref a) (.ref b) H Q :=
 ⟨_,_,rd_val h1,rd_val h2,shp_val ..,shp_val ..,mix_val ..,by rw[sam_val];exact q⟩
theorem neV_of {K:PySem.W.Frag}{H:Hp}{a b:Addr}{m c m' c':Int}{ws ws':List Int}{Q:VK}(h1:zEo H a m ws c)(h2:zEo H b m' ws' c')(q:Q (.bl (!decide (m=m'∧ws=ws'∧c=c'))) H):rNeD K (.ref a) (.ref b) H Q :=
 ⟨_,_,rd_val h1,rd_val h2,shp_val ..,shp_val ..,mix_val ..,by rw[sam_val];exact q⟩
theorem at3_0 (a b c:V):atI [a,b,c] 0=some a:=rfl
theorem at3_1 (a b c:V):atI [a,b,c] 1=some b:=rfl
theorem at3_2 (a b c:V):atI [a,b,c] 2=some c:=rfl
end L2
set_option Elab.async false
set_option linter.all false
set_option maxRecDepth 100000
set_option maxHeartbeats 5000000
namespace L2
open PySem PySem.Spec PyProof.Rows
open AutoSeq1 (wpAny_loadPart')
section
variable {prog:Program}{w:World}{A:Around}{E:Value→Shared→Prop}{s:Shared}
theorem nextT_item {it t:Addr}{i:Nat}{vs:Array Value}{x:Value}{Q:Value→Shared→Prop}(hit:s.heap.IsTupleIter it t i)(ht:s.heap.IsTuple t vs)(hx:vs[i]?=some x)(hQ:∀ h',h'.IsTupleIter it t (i+1)→Heap.SameBut it s.heap h'→Q x { s with heap:=h' }):wpAny (model prog w) A (Builtin.SmallTypes.nextOf (.ref it)) Q E s:=by
 obtain⟨o,g1,g2,g3⟩:=id hit;obtain⟨o2,k1,_,k2,k3⟩:=ht;unfold Builtin.SmallTypes.nextOf
 refine wpAny_bind (wpAny_callSpecial?_slot (name:=Str.ofString "__next__") hit.typeIs F.slot_tuple_iterator_next (wpAny_call_entry F.slot_tuple_iterator_next hit.typeIs F.entry_tuple_iterator_next ?_ (F.args_tuple_iterator_next_1 _)))
 show wpAny _ _ (field (.ref it) 0 >>= _) _ _ s;refine wpAny_bind (wpAny_field g1 g3 (x:=.ref t) rfl ?_)
 show wpAny _ _ (if (Value.ref t == Value.none)=true then _ else _) _ _ s;rw[if_neg (show ¬ ((Value.ref t == Value.none)=true) from Bool.false_ne_true)]
 show wpAny _ _ (field (.ref it) 1 >>= _) _ _ s;refine wpAny_bind (wpAny_field g1 g3 (x:=.int i 0) rfl ?_)
 show wpAny _ _ (seqItems? (.ref t) >>= _) _ _ s;refine wpAny_bind (wpAny_seqItems k1 k3 ?_);simp only [Int.toNat_natCast,hx]
 refine wpAny_bind (wpAny_setField g1 g3 (by simp) (wpAny_pure ⟨x,rfl,wpAny_pure (hQ _ ?_ (Heap.SameBut.update ..))⟩))
 exact⟨_,Heap.get?_update_self _ g1 (Obj.isFreed_of_fields (Obj.data_mapFields g3 _)),(Obj.cls_mapFields ..).trans g2,by rw[Obj.data_mapFields g3];simp [rawInt]⟩
theorem nextT_end {it t:Addr}{i:Nat}{vs:Array Value}{Q:Value→Shared→Prop}(hh:A.handled=none)(hit:s.heap.IsTupleIter it t i)(ht:s.heap.IsTuple t vs)(hx:vs[i]?=none)(hE:∀ h' e,Heap.ExtBut it s.heap h'→(∃ o,h'.get? e=some o∧o.cls=.type "StopIteration")→E (.ref e) { s with heap:=h' }):wpAny (model prog w) A (Builtin.SmallTypes.nextOf (.ref it)) Q E s:=by
 obtain⟨o,g1,g2,g3⟩:=id hit;obtain⟨o2,k1,_,k2,k3⟩:=ht;unfold Builtin.SmallTypes.nextOf
 refine wpAny_bind (wpAny_callSpecial?_slot (name:=Str.ofString "__next__") hit.typeIs F.slot_tuple_iterator_next (wpAny_call_entry F.slot_tuple_iterator_next hit.typeIs F.entry_tuple_iterator_next ?_ (F.args_tuple_iterator_next_1 _)))
 show wpAny _ _ (field (.ref it) 0 >>= _) _ _ s;refine wpAny_bind (wpAny_field g1 g3 (x:=.ref t) rfl ?_)
 show wpAny _ _ (if (Value.ref t == Value.none)=true then _ else _) _ _ s;rw[if_neg (show ¬ ((Value.ref t == Value.none)=true) from Bool.false_ne_true)]
 show wpAny _ _ (field (.ref it) 1 >>= _) _ _ s;refine wpAny_bind (wpAny_field g1 g3 (x:=.int i 0) rfl ?_)
 show wpAny _ _ (seqItems? (.ref t) >>= _) _ _ s;refine wpAny_bind (wpAny_seqItems k1 k3 ?_);simp only [Int.toNat_natCast,hx]
 refine wpAny_bind (wpAny_rule (wpAny_bind (wpAny_setField g1 g3 (by simp) ?_)))
 show wpAny _ _ (newExc (.type "StopIteration") [] >>= _) _ _ _;refine wpAny_bind ?_;simp only [newExc,newTuple]
 refine wpAny_bind (wpAny_newObj_type ?_ (by size_fits));refine wpAny_bind (m:=firstArgMember _ _) (wpAny_of_eq (a:=Value.none) (by first | rfl | (simp only [firstArgMember];rfl)) ?_)
 refine wpAny_newObj_type ?_ (by size_fits);simp only [raiseNew];refine wpAny_bind (wpAny_handled ?_)
 first | rw[show A.in1.handled=none from hh] | rw[hh]
 refine wpAny_bind (wpAny_pure (wpAny_throw ?_));exact hE _ _ (((Heap.SameBut.update ..).extBut.push _).push _) ⟨_,Heap.get?_push_size _ rfl,rfl⟩
end
theorem draws_tup {prog:Program}{w:World}{A:Around}(hh:A.handled=none)(it t:Addr)(hne:t≠it)(vs:Array Value):Draws prog w A it [it,t] vs.size (fun i v=>vs[i]?=some v) (fun i h=>h.IsTupleIter it t i∧h.IsTuple t vs) where
 live:=fun _ _ st=>let ⟨o,ho,_⟩:=st.1;⟨o,ho⟩
 frame:=fun _ _ _ st hk=>⟨st.1.at fun o e=>hk it (by simp) o e,let ⟨o,ho,r⟩:=st.2;⟨o,hk t (by simp) o ho,r⟩⟩
 item:=fun i s Q E hi st hQ=>nextT_item st.1 st.2 (x:=vs[i]) (by simp [hi]) fun h' hit' hs'=>hQ _ h' s.toks (by simp [hi]) ⟨hit',let ⟨o,ho,r⟩:=st.2;⟨o,hs'.extBut t o hne ho,r⟩⟩ hs'
 done:=fun s Q E st hE=>nextT_end hh st.1 st.2 (by simp) hE
theorem enum_newT (t:Addr)(vs:Array Value)(n:Nat)(dct:Option Addr)(sl:Array (Option Value)):Meets (Builtin.«enumerate.__new__» ⟨[.type "enumerate",.ref t],[]⟩) (fun _ R s=>s.heap.get? t=some { cls:=.type "tuple",dict:=dct,data:=.seq vs n,slots:=sl } ∧
   R (.ok (.ret (.ref (s.heap.push { cls:=.type "tuple_iterator",data:=.fields #[.ref t,.int 0 0] }).objs.size))) { s with heap:=(s.heap.push { cls:=.type "tuple_iterator",data:=.fields #[.ref t,.int 0 0] }).push { cls:=.type "enumerate",data:=.fields #[.none,.bool false,.ref s.heap.objs.size,rawInt 0,.none,.none] } }) :=
 .of_wp fun prog w A R s h=>by
  obtain⟨hp,g,d,tk,os⟩:=s;obtain⟨ht,h⟩:=h;have hsub:=sub_enumerate
  have hT:Heap.IsTuple (Shared.heap ⟨hp,g,d,tk,os⟩) t vs:=⟨_,ht,rfl,n,rfl⟩
  wp_walk using wpAny_loadPart' ht
  refine wpAny_stack_any fun st=>wpAny_pure ?_;split
  ·rename_i c _ _ _ _ _;cases (c == Value.type "enumerate")
   ·wp_walk using wpAny_loadPart' ht,wpAny_pyIter_tuple hT
    exact⟨_,rfl,h⟩
   ·wp_walk using wpAny_loadPart' ht,wpAny_pyIter_tuple hT
    exact⟨_,rfl,h⟩
  ·wp_walk using wpAny_loadPart' ht,wpAny_pyIter_tuple hT
   exact⟨_,rfl,h⟩
theorem call_enumT {prog:Program}{w:World}{A:Around}{E:Value→Shared→Prop}{s:Shared}{t:Addr}{vs:Array Value}{Q:Value→Shared→Prop}(hL:s.heap.IsTuple t vs)
  (h:∀ h',IsEnum h' (s.heap.objs.size+1) s.heap.objs.size 0 .none→h'.IsTupleIter s.heap.objs.size t 0→h'.objs.size=s.heap.objs.size+2→(∀ b o,s.heap.get? b=some o→h'.get? b=some o)→Q (.ref (s.heap.objs.size+1)) { s with heap:=h' }):wpAny (model prog w) A (call (.type "enumerate") [.ref t]) Q E s:=by
 obtain⟨⟨c,dct,dt,sl⟩,hl,hc,n,hd⟩:=hL;replace hc:c=.type "tuple":=hc;replace hd:dt=.seq vs n:=hd;subst hc hd
 refine callType_new F.called_enumerate (by decide) (F.typeCall_enumerate_1 _) (F.newCall_enumerate_1 _) (fun obj=>F.args_object_init_2 obj _) F.entry_enumerate_new (enum_newT t vs n dct sl) ⟨hl,?_⟩
 have hz:(s.heap.push { cls:=.type "tuple_iterator",data:=.fields #[.ref t,.int 0 0] }).objs.size=s.heap.objs.size+1:=Heap.size_push ..
 show _∧_;rw[hz]
 have he:IsEnum ((s.heap.push { cls:=.type "tuple_iterator",data:=.fields #[.ref t,.int 0 0] }).push { cls:=.type "enumerate",data:=.fields #[.none,.bool false,.ref s.heap.objs.size,rawInt 0,.none,.none] }) (s.heap.objs.size+1) s.heap.objs.size 0 .none:=by
  have:=Heap.get?_push_size (s.heap.push { cls:=.type "tuple_iterator",data:=.fields #[.ref t,.int 0 0] }) (o:={ cls:=.type "enumerate",data:=.fields #[.none,.bool false,.ref s.heap.objs.size,rawInt 0,.none,.none] }) rfl
  rw[hz] at this;exact this
 refine⟨⟨_,he,rfl⟩,h _ he ⟨_,Heap.get?_push_of_some _ (Heap.get?_push_size _ rfl),rfl,rfl⟩ (by rw[Heap.size_push,hz]) fun b o x=>Heap.get?_push_of_some _ (Heap.get?_push_of_some _ x)⟩
def IteT (K:PySem.W.Frag)(a:Addr):It :=
 ⟨fun i H=>∃ xs x,SqT K H a xs∧xs[i]?=some x,fun i H v H'=>∃ p x,v=.ref p∧H p=none∧(∀ xs,SqT K H a xs→xs[i]?=some x)∧H'=upd H p (.tup [.int i,x]),fun i H=>∃ xs,SqT K H a xs∧xs.length≤i⟩
theorem turn_enumT {P:Program}{w:World}{K:PySem.W.Frag}{elts:List Expr}{x1}{pos:Pos}(a e it:Addr)(hne:e≠it):Turn P w K (.Tuple elts x1 pos) (IteT K a) [e,it] e (fun i h=>∃ old,IsEnum h e it ((i:Nat):Int) old∧h.IsTupleIter it a i) where
 mem:=by simp
 obj:=fun i h st b hb=>by
  obtain⟨old,he,o,e1,c,d⟩:=st
  rcases List.mem_cons.mp hb with z | z
  ·subst z
   exact⟨_,he,fun v z=>by
    have z':Data.fields _=Data.cell v:=z
    cases z'⟩
  ·have z':b=it:=by simpa using z
   subst z'
   exact⟨o,e1,fun v z=>by rw[d] at z;cases z⟩
 keep:=fun i h h' st k=>by
  obtain⟨old,he,st⟩:=st
  exact⟨old,k e (by simp) _ he,st.at fun o e'=>k it (by simp) o e'⟩
 item:=by
  intro X hP hw hK hc i pins s σ H E I hf st hg
  subst hP hw hK
  obtain⟨old,he,st⟩:=st
  obtain⟨xs,x,hq,hx⟩:=hg
  obtain⟨its,rv,p,hz⟩:=I.tuple hq
  obtain⟨u,hu,ru⟩:=rv.get hx
  have lte:e < s.heap.objs.size:=Heap.lt_size he
  have lti:it < s.heap.objs.size:=by obtain⟨o,e1,_⟩:=st;exact Heap.lt_size e1
  have nai:a≠it:=fun z=>by
   obtain⟨o,e1,c1,_⟩:=st
   obtain⟨o',e2,c2,_⟩:=p
   rw[z,e1] at e2
   cases e2
   rw[c1] at c2
   exact absurd c2 (by decide +kernel)
  have nea:e≠a:=fun z=>by
   obtain⟨o',e2,c2,_⟩:=p
   rw[← z] at e2
   have e3:s.heap.get? e=some _:=he
   rw[e3] at e2
   cases e2
   exact absurd c2 (by show Value.type "enumerate"≠.type "tuple";decide +kernel)
  have D:=draws_tup (prog:=X.prog) (w:=X.w) (A:=X.A.in1) (show X.A.in1.handled=none from I.ok.hd hc) it a nai its.toArray
  have ilt:i < its.toArray.size:=by
   have:=(List.getElem?_eq_some_iff.mp hu).1
   simpa using this
  refine wpAny_pyNext_enum_itemD D he ⟨st,p⟩ ilt hne (by simp [hne,nea]) fun y h1 tk hy eo st1 ht1 hz1 hk1=>?_
  have ey:y=u:=by
   have hu':its.toArray[i]?=some u:=by simpa using hu
   rw[hu'] at hy
   exact (Option.some.inj hy).symm
  subst ey
  refine⟨_,rfl,wpAny_letOwnedTupleGo_enum eo fun h2 he2 hs2=>?_⟩
  replace hs2:Heap.SameBut e h1 h2:=hs2
  have nm:∀ b,b∉[e,it]→b≠e∧b≠it:=fun b hb=>⟨fun z=>hb (by simp [z]),fun z=>hb (by simp [z])⟩
  have IT:=I.turnedT (t':=tk+1) (h':=h2) (its:=[e,it]) (xs:=[.int ((i:Nat):Int),x]) (us:=[.int i tk,y]) (fun b o hb q=>hs2.extBut b o (nm b hb).1 (hk1 b o (nm b hb).1 (nm b hb).2 q)) hf
   (fun b hb=>by
    rcases List.mem_cons.mp hb with z | z
    ·rw[z];exact lte
    ·have z':b=it:=by simpa using z
     rw[z'];exact lti)
   (hs2.extBut _ _ (Nat.ne_of_gt lte) ht1) (by show 2≤sizeLine;decide) (.cons ⟨_,rfl⟩ (.cons ru .nil))
  refine⟨.ref s.heap.objs.size,_,IT.1,rfl,⟨_,x,rfl,I.hok.fresh (Nat.le_refl _),fun ys hy=>by rw[I.tuple_inj hy hq];exact hx,rfl⟩,⟨y,?_,st1.1.extBut hs2.extBut (Ne.symm hne)⟩,IT.2⟩
  have:((i+1:Nat):Int)=(i:Int)+1:=by push_cast;rfl
  rw[this];exact he2
 done:=by
  intro X hP hw hK hc i pins s σ H E I hf st hg
  subst hP hw hK
  obtain⟨old,he,st⟩:=st
  obtain⟨xs,hq,hx⟩:=hg
  obtain⟨its,rv,p,hz⟩:=I.tuple hq
  have hl:=rv.length
  obtain⟨f0,f1,f2,f3,f4,f5⟩:=hf it (by simp)
  have hT:s.TypeIs (.ref e) "enumerate":=⟨_,he,rfl⟩
  unfold pyNext
  refine wpAny_bind (wpAny_attempt (wpAny_callSpecial?_slot (name:=Str.ofString "__next__") hT F.slot_enumerate_next (wpAny_call_entry F.slot_enumerate_next hT F.entry_enumerate_next ?_ (F.args_enumerate_next_1 _))))
  show wpAny _ _ (field (.ref e) 2 >>= _) _ _ _;refine wpAny_bind (wpAny_field he rfl (x:=.ref it) rfl ?_)
  refine wpAny_bind (nextT_end (show X.A.in1.handled=none from I.ok.hd hc) st p (by simp;omega) fun h' x he' hx'=>?_)
  obtain⟨o,ho,hc'⟩:=hx'
  refine wpAny_bind (wpAny_isInstance (T:="StopIteration") (b:=true) ⟨o,ho,hc'⟩ isSubtype_stop ?_)
  exact wpAny_pure ⟨rfl,I.turned (t':=s.toks) (fun b o hb e=>he' b o hb e) f0 f1 f3 f4 f5⟩
 self:=fun A i s Q E st h=>by
  obtain⟨old,he,st⟩:=st
  exact wpAny_pyIter_enum he h
section
variable {X:Cx}
def iEnumT (K:PySem.W.Frag)(ta:TA):TI:=fun σ H R=>ta σ H fun vs H1=>∃ a,vs=[.ref a]∧(∃ xs,SqT K H1 a xs)∧R (IteT K a) H1
theorem pi_enumT {elts:List Expr}{x1}{pos':Pos}{a:Expr}{ta:TA}{p pos:Pos}(hg:Gl X "enumerate")(hm:X.mg "enumerate"=none)(ha:PA X [a] ta)(hs:starEach [a] X.env=[(false,eval a X.env)]:=by rfl):PI X (.Tuple elts x1 pos') (.Call (.Name "enumerate" p) [a] [] pos) (iEnumT X.K ta):=by
 intro pins s σ H R I h
 refine Call_ (jT I hg hm boot_enumerate (PyProof.Rows.callWith_type1 (thn (ha pos pins s σ H _ I h) fun us s1 ⟨vs,H1,I1,r1,q1⟩=>?_) hs rfl))
 obtain⟨a,e,⟨xs,hq⟩,q⟩:=q1
 subst e
 cases r1 with
 | cons r rr =>
  cases rr
  cases r
  obtain⟨its,rv,p,hz⟩:=I1.tuple hq
  refine call_enumT p fun h' he hit hz hk=>?_
  have I2:Inv X pins σ H1 { s1 with heap:=h' }:=I1.kept (t':=s1.toks) hk
  refine wpAny_pyIter_enum he ?_
  refine⟨_,[s1.heap.objs.size+1,s1.heap.objs.size],_,_,H1,rfl,I2,turn_enumT a _ _ (Nat.succ_ne_self _),⟨.none,he,hit⟩,fun b hb=>?_,q⟩
  rcases List.mem_cons.mp hb with z | z
  ·subst z;exact I1.fpOk (Nat.le_succ _) (I1.hok.fresh (Nat.le_succ _))
  ·have z':b=s1.heap.objs.size:=by simpa using z
   subst z';exact I1.fpOk (Nat.le_refl _) (I1.hok.fresh (Nat.le_refl _))
end
theorem for_enumT {K:PySem.W.Frag}{a:Addr}{xs:List V}{g:TG}{tb:TS}{D:Ends}{σ:St}{H:Hp}(Pv:Nat→St→Hp→Prop)(h0:Pv 0 σ H)(hl:∀ i σ H,i≤xs.length→Pv i σ H→SqT K H a xs)
  (hs:∀ i x σ H p,xs[i]?=some x→Pv i σ H→H p=none→g (.ref p) σ (upd H p (.tup [.int i,x])) fun σ2 H2=>tb { D with nx:=Pv (i+1),ct:=Pv (i+1),bk:=D.nx } σ2 H2)(hd:∀ σ H,Pv xs.length σ H→D.nx σ H) :
  ∃ W:Nat→Nat→St→Hp→Prop,(∃ m,W 0 m σ H)∧∀ i m σ H,W i m σ H →
   ((IteT K a).stop i H∧D.nx σ H)∨((IteT K a).go i H∧∃ N:St→Hp→Prop,(∀ σ' H',N σ' H'→∃ m',m' < m∧W (i+1) m' σ' H')∧∀ x H',(IteT K a).yld i H x H'→g x σ H' fun σ2 H2=>tb { D with nx:=N,ct:=N,bk:=D.nx } σ2 H2):=by
 refine⟨fun i m σ H=>m=xs.length-i∧i≤xs.length∧Pv i σ H,⟨xs.length,by simp,Nat.zero_le _,h0⟩,?_⟩
 rintro i m σ H ⟨rfl,hi,p⟩
 have q:=hl i σ H hi p
 by_cases hlt:i < xs.length
 ·refine .inr ⟨⟨xs,xs[i],q,by simp [hlt]⟩,Pv (i+1),fun σ' H' p'=>⟨xs.length-(i+1),by omega,rfl,hlt,p'⟩,fun x H' y=>?_⟩
  obtain⟨r,y,rfl,hr,hy,rfl⟩:=y
  exact hs i y σ _ r (hy xs q) p hr
 ·have e:i=xs.length:=by omega
  subst e
  exact .inl ⟨⟨xs,q,Nat.le_refl _⟩,hd σ H p⟩
end L2
set_option linter.all false
namespace Vl
open Pt (Parts)
open Rt (fF Ld' R)
theorem zFa {n:Nat}(hn:1≤n):∃ l:List ((Int×Int)×Int),∃ ps,Ld' n ps l:=by
 obtain⟨ps,hp⟩:=Pl.parts_ex (n:=n) (by omega)
 obtain⟨l,h⟩:=Ld'.ex hn hp
 exact⟨l,ps,h⟩
open Classical in
noncomputable def rst (n:Nat)(f:Int→Int):Int→Int:=if h:1≤n then R n (zFa h).choose f else f
theorem jJ {n:Nat}{ps:List (Int×Int)}{l:List ((Int×Int)×Int)}(h:Ld' n ps l)(f:Int→Int):rst n f=R n l f:=by
 unfold rst
 rw[dif_pos h.n1]
 obtain⟨ps',h'⟩:=(zFa h.n1).choose_spec
 exact h'.one h f
section
variable {n:Nat}(hn:1≤n){f g:Int→Int}
include hn
theorem rst_add (f g:Int→Int):rst n (fun x=>f x+g x)=fun x=>rst n f x+rst n g x:=by
 obtain⟨l,ps,h⟩:=zFa hn
 rw[jJ h,jJ h,jJ h];exact funext fun k=>Rt.R_add n l f g k
theorem zBr (f:Int→Int)(m:Int):rst n (fun x=>m*f x)=fun x=>m*rst n f x:=by
 obtain⟨l,ps,h⟩:=zFa hn
 rw[jJ h,jJ h]
 have e:(fun x=>m*f x)=fun x=>f x*m:=funext fun x=>Int.mul_comm ..
 rw[e]
 exact funext fun k=>by rw[Rt.R_mul,Int.mul_comm]
theorem rst_again (f:Int→Int):rst n (rst n f)=rst n f:=by
 obtain⟨l,ps,h⟩:=zFa hn
 rw[jJ h,jJ h];exact h.again f
theorem rst_per (hf:Ld.Per n f):Ld.Per n (rst n f):=by
 obtain⟨l,ps,h⟩:=zFa hn
 rw[jJ h];exact Rt.R_per (fun z hz=>h.pc hz) hf
theorem rst_rows {ps:List (Int×Int)}(hp:Parts n ps){rows:List (Int×Int×Int)}(ok:∀ t∈rows,t.1∈ps.map Prod.fst):rst n (Rg.rvs n rows)=fun _=>0:=by
 obtain⟨l,h⟩:=Ld'.ex hn hp
 rw[jJ h];exact funext fun k=>h.kill_rows ok k
theorem rst_fin {m:Nat}(hm:1≤m)(hf:Ld.Per n f):rst (m*n) (fF m f)=fF m (rst n f):=by
 obtain⟨l,ps,h⟩:=zFa hn
 obtain⟨l',ps',h'⟩:=zFa (n:=m*n) (Nat.mul_pos hm hn)
 rw[jJ h,jJ h'];exact funext fun k=>Rt.R_fin hm h h' hf k
end
theorem zDc (f:Int→Int):fF 1 f=f:=funext fun x=>by
 unfold fF
 rw[if_pos (by show x%(1:Int)=0;exact Int.emod_one x)]
 show f (x/1)=f x
 rw[Int.ediv_one]
theorem j8 (m:Nat)(c:Int)(f:Int→Int):fF m (fun x=>c*f x)=fun x=>c*fF m f x:=funext fun x=>by
 unfold fF;split
 ·rfl
 ·exact (Int.mul_zero c).symm
theorem fF_fF {p q:Nat}(hp:1≤p)(f:Int→Int):fF p (fF q f)=fF (p*q) f:=funext fun x=>by
 unfold fF
 have e1:x/((p*q:Nat):Int)=x/p/q:=by rw[Int.natCast_mul,Int.ediv_ediv_of_nonneg (by omega)]
 have e2:x%((p*q:Nat):Int)=0↔x%p=0∧(x/p)%q=0:=by
  rw[← Int.dvd_iff_emod_eq_zero,← Int.dvd_iff_emod_eq_zero,← Int.dvd_iff_emod_eq_zero,Int.natCast_mul]
  constructor
  ·rintro⟨c,hc⟩
   refine⟨⟨q*c,by rw[hc,Int.mul_assoc]⟩,⟨c,?_⟩⟩
   rw[hc,Int.mul_assoc,Int.mul_ediv_cancel_left _ (by omega)]
  ·rintro⟨⟨c,hc⟩,⟨d,hd⟩⟩
   refine⟨d,?_⟩
   rw[hc,Int.mul_ediv_cancel_left _ (by omega)] at hd
   rw[hc,hd,Int.mul_assoc]
 by_cases c:x%p=0
 ·rw[if_pos c]
  by_cases d:(x/p)%q=0
  ·rw[if_pos d,if_pos (e2.mpr ⟨c,d⟩),e1]
  ·rw[if_neg d,if_neg (fun z=>d (e2.mp z).2)]
 ·rw[if_neg c,if_neg (fun z=>c (e2.mp z).1)]
theorem fF_at {m:Nat}(hm:1≤m)(f:Int→Int)(x:Int):fF m f (m*x)=f x:=by
 unfold fF
 rw[if_pos (Int.mul_emod_right _ _),Int.mul_ediv_cancel_left _ (by omega)]
theorem fF_inj {m:Nat}(hm:1≤m){f g:Int→Int}(h:fF m f=fF m g):f=g:=funext fun x=>by
 have:=congrFun h (m*x)
 rwa [fF_at hm,fF_at hm] at this
theorem zEg {p q:Nat}(hp:1≤p)(hq:1≤q)(f:Int→Int):fF p (fF q f)=fF q (fF p f):=by rw[fF_fF hp,fF_fF hq,Nat.mul_comm]
def zR (N:Nat)(f:Int→Int)(b:Int)(M:Nat)(g:Int→Int)(c:Int):Prop:=(fun x=>c*fF M (rst N f) x)=fun x=>b*fF N (rst M g) x
theorem zR.symm {N M:Nat}{f g:Int→Int}{b c:Int}(h:zR N f b M g c):zR M g c N f b:=Eq.symm h
theorem zR.trans {N M L:Nat}{f g k:Int→Int}{b c d:Int}(hN:1≤N)(hM:1≤M)(hL:1≤L)(hc:c≠0)(h1:zR N f b M g c)(h2:zR M g c L k d):zR N f b L k d:=by
 unfold zR at *
 have a1:=congrArg (fF L) h1
 have a2:=congrArg (fF N) h2
 rw[j8,j8] at a1 a2
 refine fF_inj hM ?_
 rw[j8,j8]
 funext x
 have b1:=congrFun a1 x
 have b2:=congrFun a2 x
 rw[zEg hL hM] at b1
 rw[zEg hN hL,zEg hN hM] at b2
 refine Int.eq_of_mul_eq_mul_left hc ?_
 show c*(d*fF M (fF L (rst N f)) x)=c*(b*fF M (fF N (rst L k)) x)
 have e1:c*(d*fF M (fF L (rst N f)) x)=d*(c*fF M (fF L (rst N f)) x):=Int.mul_left_comm ..
 have e2:c*(b*fF M (fF N (rst L k)) x)=b*(c*fF M (fF N (rst L k)) x):=Int.mul_left_comm ..
 rw[e1,e2,b1,← b2,Int.mul_left_comm]
theorem same_on {N M J p q:Nat}(hN:1≤N)(hM:1≤M)(hp:1≤p)(hq:1≤q)(e1:J=p*N)(e2:J=q*M){f g:Int→Int}{b c:Int} :
  zR N f b M g c↔(fun x=>c*fF p (rst N f) x)=fun x=>b*fF q (rst M g) x:=by
 have pn:p*N=q*M:=e1.symm.trans e2
 unfold zR
 constructor
 ·intro h
  refine fF_inj hM ?_
  have a:=congrArg (fF p) h
  rw[j8,j8] at a ⊢
  rw[zEg hM hp,a,fF_fF hp,fF_fF hM,pn,Nat.mul_comm q M]
 ·intro h
  refine fF_inj hp ?_
  have a:=congrArg (fF M) h
  rw[j8,j8] at a ⊢
  rw[zEg hp hM,a,fF_fF hp,fF_fF hM,pn,Nat.mul_comm q M]
theorem same_even {N M J p q:Nat}(hN:1≤N)(hM:1≤M)(hp:1≤p)(hq:1≤q)(e1:J=p*N)(e2:J=q*M){f g:Int→Int}(hf:Ld.Per N f)(hg:Ld.Per M g){b c:Int} :
  zR N f b M g c↔rst J (fun x=>c*fF p f x + -b*fF q g x)=fun _=>0:=by
 have hJ:1≤J:=by rw[e1];exact Nat.mul_pos hp hN
 rw[same_on hN hM hp hq e1 e2,rst_add hJ,zBr hJ,zBr hJ]
 have r1:rst J (fF p f)=fF p (rst N f):=by rw[e1];exact rst_fin hN hp hf
 have r2:rst J (fF q g)=fF q (rst M g):=by rw[e2];exact rst_fin hM hq hg
 rw[r1,r2]
 constructor
 ·intro h
  funext x
  have:=congrFun h x
  dsimp only at this ⊢
  rw[this,Int.neg_mul];omega
 ·intro h
  funext x
  have:=congrFun h x
  dsimp only at this ⊢
  rw[Int.neg_mul] at this;omega
structure Pln (n:Nat)(w:Int→Int)(c:Int):Prop where
 n1:1≤n
 per:Ld.Per n w
 fix:rst n w=w
 c1:1≤c
 cw:∀ d:Int,d∣c→(∀ k,d∣w k)→d∣1
 ns:∀ d:Int,d∣n→(∀ k,w k≠0→d∣k)→d∣1
theorem j6 {a b:Int}(ha:a≠0){P:Int→Prop}(one:∀ d:Int,d∣a→(∀ k,P k→d∣k)→d∣1)(h:∀ k,P k→a∣b*k):a∣b:=by
 have g0:Int.gcd a b≠0:=fun z=>ha (Int.gcd_eq_zero_iff.mp z).1
 obtain⟨a',ea⟩:((Int.gcd a b:Nat):Int)∣a:=Int.gcd_dvd_left ..
 obtain⟨b',eb⟩:((Int.gcd a b:Nat):Int)∣b:=Int.gcd_dvd_right ..
 obtain⟨D,hD⟩:∃ D,D=Int.gcd a b:=⟨_,rfl⟩
 rw[← hD] at ea eb g0
 subst ea
 subst eb
 rw[Int.gcd_mul_left,Int.natAbs_natCast] at hD
 have cop:Int.gcd a' b'=1:=(Nat.eq_of_mul_eq_mul_left (show 0 < D by omega) (show D*1=D*Int.gcd a' b' by rw[Nat.mul_one];exact hD)).symm
 have gg:(D:Int)≠0:=by omega
 have d1:a'∣1:=one a' ⟨D,Int.mul_comm ..⟩ fun k hk=>by
  obtain⟨z,hz⟩:=h k hk
  rw[Int.mul_assoc,Int.mul_assoc] at hz
  exact Rs.w6 cop ⟨z,Int.eq_of_mul_eq_mul_left gg hz⟩
 obtain⟨u,hu⟩:=d1
 refine⟨u*b',?_⟩
 rw[Int.mul_assoc,← Int.mul_assoc a' u b',← hu,Int.one_mul]
theorem pos_dvd {a b:Int}(ha:1≤a)(hb:1≤b)(h1:a∣b)(h2:b∣a):a=b:=Int.le_antisymm (Int.le_of_dvd (by omega) h1) (Int.le_of_dvd (by omega) h2)
theorem n_dvd {n m:Nat}{w v:Int→Int}{c d:Int}(h:Pln n w c)(g:Pln m v d)(s:zR n w c m v d):(n:Int)∣m:=by
 have hn:=h.n1
 have hm:=g.n1
 have hc:=h.c1
 have hd:=g.c1
 refine j6 (P:=fun k=>w k≠0) (by omega) h.ns fun k hk=>?_
 unfold zR at s
 rw[h.fix,g.fix] at s
 have e:=congrFun s (m*k)
 rw[fF_at hm] at e
 unfold fF at e
 by_cases z:((m:Int)*k)%n=0
 ·exact Int.dvd_of_emod_eq_zero z
 ·rw[if_neg z,Int.mul_zero] at e
  exact absurd ((Int.mul_eq_zero.mp e).resolve_left (by omega)) hk
theorem Pln.uniq {n m:Nat}{w v:Int→Int}{c d:Int}(h:Pln n w c)(g:Pln m v d)(s:zR n w c m v d):n=m∧w=v∧c=d:=by
 have e:(n:Int)=m:=pos_dvd (by have:=h.n1;omega) (by have:=g.n1;omega) (n_dvd h g s) (n_dvd g h s.symm)
 have e:n=m:=by omega
 subst e
 have hn:=h.n1
 have e1:(fun x=>d*w x)=fun x=>c*v x:=by
  unfold zR at s
  rw[h.fix,g.fix] at s
  rw[← j8,← j8] at s
  exact fF_inj hn s
 have cd:c∣d:=j6 (P:=fun y=>∃ k,w k=y) (by have:=h.c1;omega) (fun z hz hk=>h.cw z hz fun k=>hk _ ⟨k,rfl⟩) fun y ⟨k,hk⟩=>by
  rw[← hk];exact⟨v k,congrFun e1 k⟩
 have dc:d∣c:=j6 (P:=fun y=>∃ k,v k=y) (by have:=g.c1;omega) (fun z hz hk=>g.cw z hz fun k=>hk _ ⟨k,rfl⟩) fun y ⟨k,hk⟩=>by
  rw[← hk];exact⟨w k,(congrFun e1 k).symm⟩
 have ec:=pos_dvd h.c1 g.c1 cd dc
 subst ec
 refine⟨rfl,funext fun x=>?_,rfl⟩
 exact Int.eq_of_mul_eq_mul_left (by have:=h.c1;omega) (congrFun e1 x)
theorem tell {N n g:Nat}{f:Int→Int}{b h:Int}(hN:1≤N)(hf:Ld.Per N f)(hg:1≤g)(en:N=g*n)(gs:∀ k,rst N f k≠0→(g:Int)∣k)(gm:∀ d:Int,d∣N→(∀ k,rst N f k≠0→d∣k)→d∣g)
  (h0:h≠0)(hb:h∣b)(hw:∀ k,h∣rst N f k)(hm:∀ d:Int,d∣b→(∀ k,d∣rst N f k)→d∣h)(pos:1≤b/h) :
  Pln n (fun k=>rst N f (g*k)/h) (b/h)∧zR N f b n (fun k=>rst N f (g*k)/h) (b/h):=by
 have hn:1≤n:=by
  rcases Nat.eq_zero_or_pos n with z | z
  ·rw[z,Nat.mul_zero] at en;omega
  ·exact z
 have per:=rst_per hN hf
 have enI:(N:Int)=g*n:=by rw[en,Int.natCast_mul]
 have pw:Ld.Per n fun k=>rst N f (g*k):=fun x y e=>by
  refine per _ _ ?_
  have:(g:Int)*x-g*y=N*((x-y)/n):=by
   have d:(n:Int)∣x-y:=Int.dvd_of_emod_eq_zero (Int.emod_eq_emod_iff_emod_sub_eq_zero.mp e)
   obtain⟨z,hz⟩:=d
   rw[hz,Int.mul_ediv_cancel_left _ (by omega),enI,← Int.mul_sub,hz,Int.mul_assoc]
  refine Int.emod_eq_emod_iff_emod_sub_eq_zero.mpr ?_
  rw[this];exact Int.mul_emod_right _ _
 have sp:fF g (fun k=>rst N f (g*k))=rst N f:=funext fun x=>by
  unfold fF
  by_cases c:x%g=0
  ·rw[if_pos c]
   show rst N f (g*(x/g))=rst N f x
   rw[Int.mul_ediv_cancel' (Int.dvd_of_emod_eq_zero c)]
  ·rw[if_neg c]
   by_cases z:rst N f x=0
   ·exact z.symm
   ·exact absurd (Int.emod_eq_zero_of_dvd (gs x z)) c
 have fx:rst n (fun k=>rst N f (g*k))=fun k=>rst N f (g*k):=by
  refine fF_inj hg ?_
  have a:=rst_fin hn hg pw
  rw[← en,sp,rst_again hN] at a
  rw[← a,sp]
 have hh:(fun k=>h*(rst N f (g*k)/h))=fun k=>rst N f (g*k):=funext fun k=>Int.mul_ediv_cancel' (hw _)
 have fx2:rst n (fun k=>rst N f (g*k)/h)=fun k=>rst N f (g*k)/h:=by
  have a:=zBr hn (fun k=>rst N f (g*k)/h) h
  rw[hh,fx] at a
  funext k
  have:=congrFun a k
  exact Int.eq_of_mul_eq_mul_left h0 (by rw[← this,Int.mul_ediv_cancel' (hw _)])
 obtain⟨b',eb⟩:=hb
 have eb':b/h=b':=by rw[eb];exact Int.mul_ediv_cancel_left _ h0
 refine⟨⟨hn,fun x y e=>congrArg (· / h) (pw x y e),fx2,pos,fun d d1 d2=>?_,fun d d1 d2=>?_⟩,?_⟩
 ·have a:d*h∣h:=hm (d*h) (by rw[eb] ;rw[eb'] at d1;obtain⟨z,hz⟩:=d1;exact⟨z,by rw[hz,Int.mul_left_comm,Int.mul_assoc,Int.mul_left_comm]⟩) fun k=>by
   by_cases z:rst N f k=0
   ·rw[z];exact Int.dvd_zero _
   ·obtain⟨y,hy⟩:=gs k z
    obtain⟨u,hu⟩:=d2 y
    refine⟨u,?_⟩
    have:rst N f k=h*(rst N f (g*y)/h):=by rw[Int.mul_ediv_cancel' (hw _),hy]
    rw[this,hu,Int.mul_left_comm,Int.mul_assoc,Int.mul_left_comm]
  obtain⟨z,hz⟩:=a
  refine⟨z,Int.eq_of_mul_eq_mul_left h0 ?_⟩
  rw[Int.mul_one]
  conv=>lhs;rw[hz]
  rw[Int.mul_comm d h,Int.mul_assoc]
 ·have a:(g:Int)*d∣g:=gm (g*d) (by rw[enI];obtain⟨z,hz⟩:=d1;exact⟨z,by rw[hz,Int.mul_assoc]⟩) fun k hk=>by
   obtain⟨y,hy⟩:=gs k hk
   rw[hy]
   have ne:rst N f (g*y)/h≠0:=fun z=>by
    have:=Int.mul_ediv_cancel' (hw (g*y))
    rw[z,Int.mul_zero,← hy] at this
    exact hk this.symm
   obtain⟨u,hu⟩:=d2 y ne
   exact⟨u,by rw[hu,Int.mul_assoc]⟩
  obtain⟨z,hz⟩:=a
  refine⟨z,Int.eq_of_mul_eq_mul_left (show (g:Int)≠0 by omega) ?_⟩
  rw[Int.mul_one,← Int.mul_assoc];exact hz
 ·rw[same_on (J:=N) hN hn (Nat.le_refl 1) hg (by rw[Nat.one_mul]) en,zDc,fx2]
  have e1:(fun x=>b*fF g (fun k=>rst N f (g*k)/h) x)=fun x=>b'*fF g (fun k=>h*(rst N f (g*k)/h)) x:=by
   rw[j8]
   funext x
   rw[eb,Int.mul_comm h b',Int.mul_assoc]
  rw[e1,hh,sp,eb']
end Vl
set_option linter.all false
namespace Vl
open Pt (Parts)
open Rt (fF Ld' R)
theorem same_one {J:Nat}(hJ:1≤J){f g:Int→Int}{b c:Int}:zR J f b J g c↔(fun x=>c*rst J f x)=fun x=>b*rst J g x:=by
 rw[same_on (J:=J) hJ hJ (Nat.le_refl 1) (Nat.le_refl 1) (by rw[Nat.one_mul]) (by rw[Nat.one_mul]),zDc,zDc]
theorem zDu {N p:Nat}(hN:1≤N)(hp:1≤p){f:Int→Int}(hf:Ld.Per N f)(b:Int):zR N f b (p*N) (fF p f) b:=by
 rw[same_on (J:=p*N) (q:=1) hN (Nat.mul_pos hp hN) hp (Nat.le_refl 1) rfl (by rw[Nat.one_mul]),zDc,rst_fin hN hp hf]
theorem same_sum {J:Nat}(hJ:1≤J){f1 f2 g1 g2:Int→Int}{b1 b2 c1 c2:Int}(h1:zR J f1 b1 J g1 c1)(h2:zR J f2 b2 J g2 c2) :
  zR J (fun x=>b2*f1 x+b1*f2 x) (b1*b2) J (fun x=>c2*g1 x+c1*g2 x) (c1*c2):=by
 rw[same_one hJ] at *
 rw[rst_add hJ,rst_add hJ,zBr hJ,zBr hJ,zBr hJ,zBr hJ]
 funext x
 have e1:=congrFun h1 x
 have e2:=congrFun h2 x
 show c1*c2*(b2*rst J f1 x+b1*rst J f2 x)=b1*b2*(c2*rst J g1 x+c1*rst J g2 x)
 have a1:c1*rst J f1 x=b1*rst J g1 x:=e1
 have a2:c2*rst J f2 x=b2*rst J g2 x:=e2
 grind
theorem own_dvd {n M:Nat}{w g:Int→Int}{c d:Int}(h:Pln n w c)(hM:1≤M)(hd:d≠0)(s:zR n w c M g d):(n:Int)∣M:=by
 have hn:=h.n1
 refine j6 (P:=fun k=>w k≠0) (by omega) h.ns fun k hk=>?_
 unfold zR at s
 rw[h.fix] at s
 have e:=congrFun s (M*k)
 rw[fF_at hM] at e
 unfold fF at e
 by_cases z:((M:Int)*k)%n=0
 ·exact Int.dvd_of_emod_eq_zero z
 ·rw[if_neg z,Int.mul_zero] at e
  exact absurd ((Int.mul_eq_zero.mp e).resolve_left hd) hk
end Vl
set_option linter.all false
namespace Vl
open Pt (Parts)
open Rt (fF Ld' R)
section
variable {n:Nat}(hn:1≤n)
include hn
end
def dlt (n:Nat)(h x:Int):Int:=if (n:Int)∣x-h then 1 else 0
theorem dlt_per (n:Nat)(h:Int):Ld.Per n (dlt n h):=fun x y e=>by
 unfold dlt
 have d:(n:Int)∣x-y:=Int.dvd_of_emod_eq_zero (Int.emod_eq_emod_iff_emod_sub_eq_zero.mp e)
 have:(n:Int)∣x-h↔(n:Int)∣y-h:=by
  constructor
  ·intro z;have:=Int.dvd_sub z d;rwa [show x-h-(x-y)=y-h by omega] at this
  ·intro z;have:=Int.dvd_add z d;rwa [show y-h+(x-y)=x-h by omega] at this
 by_cases c:(n:Int)∣x-h
 ·rw[if_pos c,if_pos (this.mp c)]
 ·rw[if_neg c,if_neg (fun z=>c (this.mpr z))]
end Vl
set_option linter.all false
namespace Vl
open Pt (Parts)
open Rt (fF Ld' R)
theorem parts_1:Parts ((1:Nat):Int) []:=⟨rfl,fun x h=>(nomatch h),List.Pairwise.nil⟩
theorem rst_1 (f:Int→Int):rst 1 f=f:=by
 have h:Ld' 1 [] []:=⟨Nat.le_refl 1,parts_1,rfl,fun z h=>(nomatch h)⟩
 rw[jJ h];rfl
theorem fin_1 (n:Nat)(A:Int):fF n (fun _=>A)=fun x=>A*dlt n 0 x:=funext fun x=>by
 unfold fF dlt
 rw[Int.sub_zero]
 by_cases c:x%n=0
 ·rw[if_pos c,if_pos (Int.dvd_of_emod_eq_zero c),Int.mul_one]
 ·rw[if_neg c,if_neg (fun z=>c (Int.emod_eq_zero_of_dvd z)),Int.mul_zero]
theorem whole_pln (many:Int):Pln 1 (fun _=>many) 1:=⟨Nat.le_refl 1,fun _ _ _=>rfl,rst_1 _,Int.le_refl 1,fun d h _=>h,fun d h _=>h⟩
end Vl
set_option linter.all false
namespace Vl
open Rt (fF Ld' R)
def Dg (g:Int)(l:List Int):Int:=l.foldl Eh.G g
def Dv (a:Int)(l:List Int):Int:=Dg (Eh.ab a) l
theorem Dg_snoc (g:Int)(l:List Int)(x:Int):Dg g (l ++ [x])=Eh.G (Dg g l) x:=by simp [Dg]
theorem Dg_dvd:∀ (l:List Int)(g:Int),Dg g l∣g∧∀ x∈l,Dg g l∣x
 | [],g=>⟨Int.dvd_refl _,fun _ h=>(nomatch h)⟩
 | y::l,g=>by
  have ih:=Dg_dvd l (Eh.G g y)
  have e:Dg g (y::l)=Dg (Eh.G g y) l:=rfl
  rw[e]
  refine⟨Int.dvd_trans ih.1 (Int.gcd_dvd_left ..),fun x hx=>?_⟩
  rcases List.mem_cons.mp hx with z | z
  ·rw[z];exact Int.dvd_trans ih.1 (Int.gcd_dvd_right ..)
  ·exact ih.2 x z
theorem Dg_max:∀ (l:List Int)(g d:Int),d∣g→(∀ x∈l,d∣x)→d∣Dg g l
 | [],g,d,h,_=>h
 | y::l,g,d,h,k=>Dg_max l (Eh.G g y) d (Int.dvd_coe_gcd h (k y (by simp))) fun x hx=>k x (List.mem_cons_of_mem _ hx)
theorem Dg_nonneg:∀ (l:List Int)(g:Int),0≤g→0≤Dg g l
 | [],g,h=>h
 | y::l,g,_=>Dg_nonneg l (Eh.G g y) (Eh.G_nonneg ..)
theorem ab_dvd (a:Int):Eh.ab a∣a∧a∣Eh.ab a:=by
 unfold Eh.ab
 split
 ·exact⟨Int.neg_dvd.mpr (Int.dvd_refl _),Int.dvd_neg.mpr (Int.dvd_refl _)⟩
 ·exact⟨Int.dvd_refl _,Int.dvd_refl _⟩
theorem Dv_dvd (a:Int)(l:List Int):Dv a l∣a∧∀ x∈l,Dv a l∣x:=⟨Int.dvd_trans (Dg_dvd l _).1 (ab_dvd a).1,(Dg_dvd l _).2⟩
theorem Dv_max {a:Int}{l:List Int}{d:Int}(h:d∣a)(k:∀ x∈l,d∣x):d∣Dv a l:=Dg_max l _ d (Int.dvd_trans h (ab_dvd a).2) k
theorem ab_nonneg (a:Int):0≤Eh.ab a:=by rw[Eh.ab_nat];omega
theorem Dv_nonneg (a:Int)(l:List Int):0≤Dv a l:=Dg_nonneg l _ (ab_nonneg a)
def hs (b:List Int)(i:Nat):List Int:=(Ld.nz b i).map Prod.fst
theorem hs_succ (b:List Int)(i:Nat):hs b (i+1)=hs b i ++ (if Ld.at' b i=0 then [] else [(i:Int)]):=by
 unfold hs
 rw[Ld.nz_succ,List.map_append]
 split <;> rfl
theorem hs_len (b:List Int)(i:Nat):(hs b i).length≤i:=by unfold hs;rw[List.length_map];exact Ld.nz_len b i
theorem hs_mem {b:List Int}:∀ {i:Nat}{k:Int},k∈hs b i↔0≤k∧k < i∧Ld.at' b k≠0
 | 0,k=>by simp [hs,Ld.nz];omega
 | i+1,k=>by
  rw[hs_succ,List.mem_append,hs_mem]
  by_cases c:Ld.at' b i=0
  ·rw[if_pos c]
   constructor
   ·rintro (h | h)
    ·exact⟨h.1,by omega,h.2.2⟩
    ·simp at h
   ·rintro⟨h0,h1,h2⟩
    refine .inl ⟨h0,?_,h2⟩
    have:k≠i:=fun e=>h2 (by rw[e];exact c)
    omega
  ·rw[if_neg c]
   constructor
   ·rintro (h | h)
    ·exact⟨h.1,by omega,h.2.2⟩
    ·have:k=i:=by simpa using h
     subst this;exact⟨by omega,by omega,c⟩
   ·rintro⟨h0,h1,h2⟩
    by_cases e:k=i
    ·exact .inr (by rw[e];simp)
    ·exact .inl ⟨h0,by omega,h2⟩
def wts (b:List Int)(m s:Nat):List Int:=(List.range m).map fun (t:Nat)=>Ld.at' b (((0:Nat):Int)+(t:Int)*s)
theorem zCr (b:List Int)(m s:Nat):(wts b m s).length=m:=by simp [wts]
theorem wts_at {b:List Int}{m s:Nat}(hm:1≤m)(hb:b.length=m*s)(k:Int):Ld.at' (wts b m s) k=Ld.at' b (s*k):=by
 have h0:=Int.emod_nonneg k (show (m:Int)≠0 by omega)
 have h1:=Int.emod_lt_of_pos k (show 0 < (m:Int) by omega)
 have e:=Ld.zAv (a:=wts b m s) (x:=k) (by rw[zCr];omega)
 rw[zCr] at e
 unfold wts at e
 rw[List.getElem?_map,List.getElem?_range (by omega)] at e
 have e':=Option.some.inj e
 unfold wts
 rw[← e']
 refine Ld.at_per b _ _ ?_
 rw[hb,Int.toNat_of_nonneg h0]
 obtain⟨z,hz⟩:(m:Int)∣k-k%m:=Int.dvd_self_sub_emod
 refine Int.emod_eq_emod_iff_emod_sub_eq_zero.mpr (Int.emod_eq_zero_of_dvd ⟨-z,?_⟩)
 have e3:k%m=k-m*z:=by omega
 rw[e3]
 push_cast
 grind
structure Tp (n:Nat)(f:Int→Int)(b:Int)(m:Nat)(ws:List Int)(c:Int):Prop where
 len:ws.length=m
 pln:Pln m (Ld.at' ws) c
 same:zR n f b m (Ld.at' ws) c
 mn:m∣n
 cb:c∣b
theorem told {n:Nat}{a b:List Int}{β:Int}(n1:1≤n)(la:a.length=n)(lb:b.length=n)(bv:∀ x,Ld.at' b x=rst n (Ld.at' a) x)(hβ:β≠0) :
  ∃ s m:Nat,Dv n (hs b n)=s∧0 < s∧0 < m∧n=m*s∧(n:Int)/s=m ∧
   ∀ h:Int,(h=if β < 0 then -Dv β (wts b m s) else Dv β (wts b m s))→h≠0∧h∣β∧(∀ x∈wts b m s,h∣x)∧h.natAbs≤β.natAbs∧Tp n (Ld.at' a) β m ((wts b m s).map (· / h)) (β/h):=by
 have hs0:=Dv_nonneg n (hs b n)
 obtain⟨s,es⟩:=Int.eq_ofNat_of_zero_le hs0
 have sd:=(Dv_dvd (n:Int) (hs b n)).1
 rw[es] at sd
 have sdn:s∣n:=Int.natCast_dvd_natCast.mp sd
 have s1:0 < s:=by
  rcases Nat.eq_zero_or_pos s with z | z
  ·subst z;have:=Nat.eq_zero_of_zero_dvd sdn;omega
  ·exact z
 obtain⟨m,em⟩:=sdn
 have m1:0 < m:=by
  rcases Nat.eq_zero_or_pos m with z | z
  ·subst z;rw[Nat.mul_zero] at em;omega
  ·exact z
 have em':n=m*s:=by rw[em,Nat.mul_comm]
 refine⟨s,m,es,s1,m1,em',?_,?_⟩
 ·rw[em'];push_cast;exact Int.mul_ediv_cancel _ (by omega)
 intro h eh
 have D:=Dv_dvd β (wts b m s)
 have d0:=Dv_nonneg β (wts b m s)
 have dz:Dv β (wts b m s)≠0:=fun z=>by rw[z] at D;exact hβ (Int.zero_dvd.mp D.1)
 have hd:∀ x,h∣x↔Dv β (wts b m s)∣x:=fun x=>by
  rw[eh];split
  ·exact Int.neg_dvd
  ·exact Iff.rfl
 have hd':∀ x,x∣h↔x∣Dv β (wts b m s):=fun x=>by
  rw[eh];split
  ·exact Int.dvd_neg
  ·exact Iff.rfl
 have h0:h≠0:=by rw[eh];split <;> omega
 have hβd:h∣β:=(hd _).mpr D.1
 have per:Ld.Per n (rst n (Ld.at' a)):=rst_per n1 (Ld.vM la)
 have gs:∀ k,rst n (Ld.at' a) k≠0→(s:Int)∣k:=fun k hk=>by
  have k0:=Int.emod_nonneg k (show (n:Int)≠0 by omega)
  have k1:=Int.emod_lt_of_pos k (show 0 < (n:Int) by omega)
  have mem:k%n∈hs b n:=hs_mem.mpr ⟨k0,k1,by rw[bv,per.md];exact hk⟩
  have:=(Dv_dvd (n:Int) (hs b n)).2 _ mem
  rw[es] at this
  have e:k=k%n+n*(k/n):=(Int.emod_add_mul_ediv k n).symm
  rw[e]
  exact Int.dvd_add this (Int.dvd_mul_of_dvd_left sd)
 have wv:∀ k,Ld.at' (wts b m s) k=rst n (Ld.at' a) (s*k):=fun k=>by rw[wts_at m1 (by rw[lb];exact em'),bv]
 have wmem:∀ k,rst n (Ld.at' a) (s*k)∈wts b m s:=fun k=>by
  rw[← wv]
  have:=Ld.zAv (a:=wts b m s) (x:=k) (by rw[zCr];omega)
  exact List.mem_of_getElem? this
 have wmem':∀ x∈wts b m s,∃ k,x=rst n (Ld.at' a) k:=fun x hx=>by
  unfold wts at hx
  obtain⟨t,_,e⟩:=List.mem_map.mp hx
  exact⟨_,by rw[← e,bv]⟩
 have hw:∀ k,h∣rst n (Ld.at' a) k:=fun k=>by
  by_cases z:rst n (Ld.at' a) k=0
  ·rw[z];exact Int.dvd_zero _
  ·obtain⟨y,hy⟩:=gs k z
   rw[hy];exact (hd _).mpr (D.2 _ (wmem y))
 have pos:1≤β/h:=by
  obtain⟨z,hz⟩:=hβd
  have e:β/h=z:=by rw[hz];exact Int.mul_ediv_cancel_left _ h0
  rw[e]
  by_cases c:β < 0
  ·rw[if_pos c] at eh
   have hn:h < 0:=by omega
   rcases Int.lt_or_le z 1 with q | q
   ·have:=Int.mul_nonneg_of_nonpos_of_nonpos (show h≤0 by omega) (show z≤0 by omega);omega
   ·exact q
  ·rw[if_neg c] at eh
   have hn:0 < h:=by omega
   rcases Int.lt_or_le z 1 with q | q
   ·have:=Int.mul_nonpos_of_nonneg_of_nonpos (show 0≤h by omega) (show z≤0 by omega);omega
   ·exact q
 have T:=tell (N:=n) (n:=m) (g:=s) (f:=Ld.at' a) (b:=β) (h:=h) n1 (Ld.vM la) s1 em gs (fun d d1 d2=>by
   rw[← es]
   refine Dv_max d1 fun x hx=>?_
   obtain⟨x0,x1,x2⟩:=hs_mem.mp hx
   exact d2 x (by rw[← bv];exact x2)) h0 hβd hw (fun d d1 d2=>(hd' _).mpr (Dv_max d1 fun x hx=>by
   obtain⟨k,hk⟩:=wmem' x hx
   rw[hk];exact d2 k)) pos
 have ev:Ld.at' ((wts b m s).map (· / h))=fun k=>rst n (Ld.at' a) (s*k)/h:=funext fun k=>by
  rw[← wv]
  unfold Ld.at'
  rw[List.length_map]
  have lt:(k%(wts b m s).length).toNat < (wts b m s).length:=Ld.zEd (by rw[zCr];omega) k
  simp only [List.getD_eq_getElem?_getD,List.getElem?_map,List.getElem?_eq_getElem lt]
  rfl
 refine⟨h0,hβd,fun x hx=>(hd _).mpr (D.2 x hx),Nat.le_of_dvd (by omega) (Int.natAbs_dvd_natAbs.mpr hβd),⟨by rw[List.length_map,zCr],?_,?_,⟨s,em'⟩,?_⟩⟩
 ·rw[ev];exact T.1
 ·rw[ev];exact T.2
 ·obtain⟨z,hz⟩:=hβd
  exact⟨h,by rw[hz,Int.mul_ediv_cancel_left _ h0,Int.mul_comm]⟩
theorem abs_div (x h:Int):(x/h).natAbs≤x.natAbs:=Int.natAbs_ediv_le_natAbs x h
theorem told_bd {n:Nat}{a b:List Int}{ps:List (Int×Int)}{l:List ((Int×Int)×Int)}{B m s:Nat}(hl:Ld' n ps l)(n2:n≤420)(ha:Ld.Bd (2^B) a)(bv:∀ x,Ld.at' b x=R n l (Ld.at' a) x)(h:Int):Ld.Bd (2^(8+B)) ((wts b m s).map (· / h)):=fun x hx=>by
 obtain⟨y,hy,e⟩:=List.mem_map.mp hx
 unfold wts at hy
 obtain⟨t,_,et⟩:=List.mem_map.mp hy
 have:=Ld.at_bd (hl.bd n2 ha bv) (((0:Nat):Int)+(t:Int)*s)
 rw[et] at this
 have h2:=abs_div y h
 rw[← e]
 exact Nat.le_trans h2 this
theorem Tp.uniq {n n':Nat}{f f':Int→Int}{b b':Int}{m m':Nat}{ws ws':List Int}{c c':Int}(h:Tp n f b m ws c)(h':Tp n' f' b' m' ws' c')(n1:1≤n)(n1':1≤n')(hb:b≠0)(hb':b'≠0)(s:zR n f b n' f' b'):m=m'∧ws=ws'∧c=c':=by
 have s2:zR m (Ld.at' ws) c m' (Ld.at' ws') c':=zR.trans h.pln.n1 n1' h'.pln.n1 hb' (zR.trans h.pln.n1 n1 n1' hb h.same.symm s) h'.same
 obtain⟨e1,e2,e3⟩:=h.pln.uniq h'.pln s2
 refine⟨e1,Ld.ext (by rw[h.len,h'.len,e1]) fun k _=>congrFun e2 k,e3⟩
theorem Tp.back {n n':Nat}{f f':Int→Int}{b b':Int}{m m':Nat}{ws ws':List Int}{c c':Int}(h:Tp n f b m ws c)(h':Tp n' f' b' m' ws' c')(n1:1≤n)(n1':1≤n')(e1:m=m')(e2:ws=ws')(e3:c=c'):zR n f b n' f' b':=by
 subst e1;subst e2;subst e3
 have c1:=h.pln.c1
 exact zR.trans n1 h.pln.n1 n1' (by omega) h.same h'.same.symm
theorem Tp.iff {n n':Nat}{f f':Int→Int}{b b':Int}{m m':Nat}{ws ws':List Int}{c c':Int}(h:Tp n f b m ws c)(h':Tp n' f' b' m' ws' c')(n1:1≤n)(n1':1≤n')(hb:b≠0)(hb':b'≠0):(m=m'∧ws=ws'∧c=c')↔zR n f b n' f' b' :=
 ⟨fun e=>h.back h' n1 n1' e.1 e.2.1 e.2.2,fun s=>h.uniq h' n1 n1' hb hb' s⟩
end Vl
set_option linter.all false
namespace Vl
open Rt (fF Ld' R)
open Pt (Parts)
theorem at_fin_fF {a:List Int}{q:Nat}(hn:0 < a.length)(hq:0 < q):Ld.at' (Ld.fin a q)=fF q (Ld.at' a):=funext fun x=>Ld.at_fin hn hq x
theorem zFt {a:List Int}(hn:0 < a.length)(m:Int):Ld.at' (Ld.scaled a m)=fun x=>m*Ld.at' a x:=funext fun x=>by rw[Ld.at_scaled hn,Int.mul_comm]
theorem nlt_mul {a b:Int}{A B:Nat}(ha:a.natAbs < 2^A)(hb:b.natAbs < 2^B):(a*b).natAbs < 2^(A+B):=by
 rw[Int.natAbs_mul,Nat.pow_add]
 exact Nat.mul_lt_mul'' ha hb
theorem bd_ex (a:List Int):∃ B,Ld.Bd (2^B) a:=by
 induction a with
 | nil=>exact⟨0,fun x h=>(nomatch h)⟩
 | cons x r ih =>
  obtain⟨B,hB⟩:=ih
  refine⟨B+x.natAbs,fun y hy=>?_⟩
  rcases List.mem_cons.mp hy with z | z
  ·rw[z]
   exact Nat.le_trans (Nat.le_of_lt Nat.lt_two_pow_self) (Nat.pow_le_pow_right (by decide) (by omega))
  ·exact Nat.le_trans (hB y z) (Nat.pow_le_pow_right (by decide) (by omega))
theorem mul_ne {a b:Int}(ha:a≠0)(hb:b≠0):a*b≠0:=fun z=>(Int.mul_eq_zero.mp z).elim ha hb
end Vl
set_option linter.all false
namespace Rt
end Rt
namespace Vl
open Rt (fF Ld' R)
open Pt (Parts)
end Vl
set_option linter.all false
namespace Vl
open Rt (fF)
open Rt (fF Ld' R)
open Pt (Parts)
theorem Tp.mk' {J m:Nat}{f:Int→Int}{b c:Int}{ws:List Int}(J1:1≤J)(hb:b≠0)(len:ws.length=m)(p:Pln m (Ld.at' ws) c)(s:zR J f b m (Ld.at' ws) c):Tp J f b m ws c:=by
 refine⟨len,p,s,Int.natCast_dvd_natCast.mp (own_dvd p J1 hb s.symm),?_⟩
 have c1:=p.c1
 have m1:=p.n1
 refine j6 (P:=fun y=>∃ k,Ld.at' ws k=y) (by omega) (fun z hz hk=>p.cw z hz fun k=>hk _ ⟨k,rfl⟩) fun y ⟨k,hk⟩=>?_
 unfold zR at s
 rw[p.fix] at s
 have e:=congrFun s (J*k)
 rw[fF_at J1] at e
 rw[← hk]
 exact⟨_,e.symm⟩
theorem Tp.of {n J m:Nat}{f g:Int→Int}{b d c:Int}{ws:List Int}(h:Tp n f b m ws c)(n1:1≤n)(J1:1≤J)(hb:b≠0)(hd:d≠0)(s:zR n f b J g d):Tp J g d m ws c :=
 Tp.mk' J1 hd h.len h.pln (zR.trans J1 n1 h.pln.n1 hb s.symm h.same)
theorem fF_lin (p:Nat)(f g:Int→Int)(a b:Int):fF p (fun x=>a*f x+b*g x)=fun x=>a*fF p f x+b*fF p g x:=by
 rw[Rt.fF_add,j8,j8]
theorem per_fF {n p:Nat}(hp:1≤p){f:Int→Int}(hf:Ld.Per n f):Ld.Per (p*n) (fF p f):=fun x y e=>by
 obtain⟨e1,e2⟩:=Ld.div_mod hp e
 unfold fF
 rw[e1,hf _ _ e2]
theorem per_lin {J:Nat}{f g:Int→Int}(hf:Ld.Per J f)(hg:Ld.Per J g)(a b:Int):Ld.Per J fun x=>a*f x+b*g x:=fun x y e=>by
 show a*f x+b*g x=_
 rw[hf x y e,hg x y e]
theorem up {J l m p q:Nat}(l1:1≤l)(m1:1≤m)(p1:1≤p)(q1:1≤q)(el:l=q*m)(eJ:J=p*l){f:Int→Int}{b c:Int}{ws:List Int}(hc:c≠0)(lw:ws.length=m)(s:zR J f b m (Ld.at' ws) c):zR J f b J (fF p (Ld.at' (Ld.fin ws q))) c:=by
 have J1:1≤J:=by rw[eJ];exact Nat.mul_pos p1 l1
 have s1:=zDu m1 q1 (Ld.vM lw) c
 have s2:=zDu l1 p1 (f:=fF q (Ld.at' ws)) (by rw[el];exact per_fF q1 (Ld.vM lw)) c
 rw[← el] at s1
 rw[← eJ] at s2
 rw[at_fin_fF (by omega) q1]
 exact zR.trans J1 l1 J1 hc (zR.trans J1 m1 l1 hc s s1) s2
theorem Tp.sum {J l m m' p q q' M:Nat}{f g:Int→Int}{b d c c' C:Int}{ws ws' W:List Int}(h:Tp J f b m ws c)(h':Tp J g d m' ws' c')(l1:1≤l)(p1:1≤p)(q1:1≤q)(q1':1≤q')(el:l=q*m)(el':l=q'*m')(eJ:J=p*l)(hb:b≠0)(hd:d≠0)
  (T:Tp l (Ld.at' (Ld.plus (Ld.scaled (Ld.fin ws q) c') (Ld.scaled (Ld.fin ws' q') c))) (c*c') M W C):Tp J (fun x=>d*f x+b*g x) (b*d) M W C:=by
 have J1:1≤J:=by rw[eJ];exact Nat.mul_pos p1 l1
 have c1:=h.pln.c1
 have c1':=h'.pln.c1
 have lf:(Ld.fin ws q).length=l:=by rw[Ld.zAu,h.len,el]
 have lf':(Ld.fin ws' q').length=l:=by rw[Ld.zAu,h'.len,el']
 have u1:=up l1 h.pln.n1 p1 q1 el eJ (by omega) h.len h.same
 have u2:=up l1 h'.pln.n1 p1 q1' el' eJ (by omega) h'.len h'.same
 have s:=same_sum J1 u1 u2
 have eF:Ld.at' (Ld.plus (Ld.scaled (Ld.fin ws q) c') (Ld.scaled (Ld.fin ws' q') c))=fun x=>c'*Ld.at' (Ld.fin ws q) x+c*Ld.at' (Ld.fin ws' q') x:=funext fun x=>by
  rw[Ld.at_plus (by rw[Ld.wO,Ld.wO,lf,lf']) (by rw[Ld.wO];omega),zFt (by omega),zFt (by omega)]
 rw[eF] at T
 have pF:Ld.Per l fun x=>c'*Ld.at' (Ld.fin ws q) x+c*Ld.at' (Ld.fin ws' q') x:=per_lin (Ld.vM lf) (Ld.vM lf') _ _
 have s2:=zDu l1 p1 pF (c*c')
 rw[← eJ,fF_lin] at s2
 exact T.of l1 J1 (mul_ne (by omega) (by omega)) (mul_ne hb hd) (zR.trans l1 J1 J1 (mul_ne (by omega) (by omega)) s2 s.symm)
theorem Tp.whole {J:Nat}(J1:1≤J)(k:Int):Tp J (fun x=>k*dlt J 0 x) 1 1 [k] 1:=by
 have e:Ld.at' [k]=fun _=>k:=funext fun x=>by
  have e1:x%(([k]:List Int).length:Int)=0:=by show x%(1:Int)=0;exact Int.emod_one x
  unfold Ld.at'
  rw[e1];rfl
 refine Tp.mk' J1 (by decide) rfl (by rw[e];exact whole_pln k) ?_
 rw[e]
 have s:=zDu (N:=1) (p:=J) (Nat.le_refl 1) J1 (f:=fun _=>k) (fun _ _ _=>rfl) 1
 rw[Nat.mul_one,fin_1] at s
 exact s.symm
theorem lcm_of {J m m':Nat}(J1:1≤J)(h:m∣J)(h':m'∣J):∃ l p q q':Nat,Nat.lcm m m'=l∧1≤l∧1≤p∧1≤q∧1≤q'∧l=q*m∧l=q'*m'∧J=p*l:=by
 obtain⟨p,hp⟩:=Nat.lcm_dvd h h'
 obtain⟨q,hq⟩:=Nat.dvd_lcm_left m m'
 obtain⟨q',hq'⟩:=Nat.dvd_lcm_right m m'
 have z:∀ {x:Nat},¬ x=0→1≤x:=fun h=>Nat.pos_of_ne_zero h
 have l0:¬ Nat.lcm m m'=0:=fun z=>by rw[z,Nat.zero_mul] at hp;omega
 refine⟨Nat.lcm m m',p,q,q',rfl,z l0,z fun e=>?_,z fun e=>?_,z fun e=>?_,by rw[Nat.mul_comm];exact hq,by rw[Nat.mul_comm];exact hq',by rw[Nat.mul_comm];exact hp⟩
 ·rw[e,Nat.mul_zero] at hp;omega
 ·rw[e,Nat.mul_zero] at hq;exact l0 hq
 ·rw[e,Nat.mul_zero] at hq';exact l0 hq'
theorem joint_eq (m m':Nat):(m:Int)/Eh.G m m'*m'=(Nat.lcm m m':Nat):=by
 unfold Eh.G
 rw[show Int.gcd (m:Int) (m':Int)=Nat.gcd m m' from rfl,← Int.natCast_ediv,← Int.natCast_mul]
 congr 1
 unfold Nat.lcm
 rw[Nat.div_mul_right_comm]
 exact Nat.gcd_dvd_left m m'
end Vl
namespace Vl
open Rt (fF)
end Vl
namespace Vl
open Rt (fF)
theorem dlt0_per (J:Nat)(k:Int):Ld.Per J fun x=>k*dlt J 0 x:=fun x y e=>by show k*_=k*_;rw[dlt_per J 0 x y e]
end Vl
namespace Vl
open Rt (fF)
end Vl
namespace Vl
open Rt (fF)
end Vl
namespace Vl
end Vl
set_option Elab.async false
set_option linter.all false
set_option maxRecDepth 100000
set_option maxHeartbeats 5000000
namespace L2
open PySem PySem.Spec PyProof.Rows
def Va (H:Hp)(J:Nat)(f:Int→Int)(b:Int)(B C:Nat)(t:Addr):Prop:=∃ (m:Nat)(ws:List Int)(c:Int),zEo H t m ws c∧Vl.Tp J f b m ws c∧Ld.Bd (2^B) ws∧c.natAbs < 2^C∧Ld.Per J f∧b≠0
theorem Va.same {H H':Hp}{J:Nat}{f:Int→Int}{b:Int}{B C:Nat}{t:Addr}(v:Va H J f b B C t)(s:zR H H'):Va H' J f b B C t:=let ⟨m,ws,c,h,r⟩:=v;⟨m,ws,c,h.same s,r⟩
theorem Va.ne {H:Hp}{J:Nat}{f g:Int→Int}{b d:Int}{B C B' C':Nat}{t t':Addr}{K:PySem.W.Frag}(v:Va H J f b B C t)(v':Va H J g d B' C' t')(J1:1≤J)(s:Vl.zR J f b J g d){Q:VK}(q:Q (.bl false) H):rNeD K (.ref t) (.ref t') H Q:=by
 obtain⟨m,ws,c,h,tp,_,_,_,b0⟩:=v
 obtain⟨m',ws',c',h',tp',_,_,_,d0⟩:=v'
 obtain⟨e1,e2,e3⟩:=tp.uniq tp' J1 J1 b0 d0 s
 exact neV_of h h' (by rw[decide_eq_true (by exact⟨by rw[e1],e2,e3⟩)];exact q)
theorem Va.whole {H:Hp}{J:Nat}(J1:1≤J){k:Int}{t:Addr}{B:Nat}(h:zEo H t 1 [k] 1)(kb:k.natAbs≤2^B):Va H J (fun x=>k*Vl.dlt J 0 x) 1 B 1 t :=
 ⟨1,[k],1,h,Vl.Tp.whole J1 k,fun x hx=>by rw[List.mem_singleton.mp hx];exact kb,by decide,Vl.dlt0_per J k,by decide⟩
end L2
set_option linter.all false
namespace Evn
open Sk Vl Rt
open Pt (Parts)
theorem part_inv {n:Nat}{p q u:Int}(h:Pc n p q u){f:Int→Int}(hf:Ld.Per n f)(x:Int):f (dl n p q u (x+(n:Int)/p))=f (dl n p q u x):=by
 have:=h.dl_step x 1
 rw[Int.one_mul] at this
 exact hf _ _ this
theorem low_ex (a:Int→Int)(s h:Int):∀ k:Nat,∃ k0:Nat,k0 < k+1∧∀ j:Nat,j < k+1→a (h+k0*s)≤a (h+j*s)
 | 0=>⟨0,by omega,fun j hj=>by have:j=0:=(by omega);rw[this];exact Int.le_refl _⟩
 | k+1=>by
  obtain⟨k0,h1,h2⟩:=low_ex a s h k
  by_cases c:a (h+k0*s)≤a (h+((k+1:Nat):Int)*s)
  ·refine⟨k0,by omega,fun j hj=>?_⟩
   rcases Nat.lt_or_ge j (k+1) with g | g
   ·exact h2 j g
   ·have:j=k+1:=by omega
    rw[this];exact c
  ·refine⟨k+1,by omega,fun j hj=>?_⟩
   rcases Nat.lt_or_ge j (k+1) with g | g
   ·have:=h2 j g;omega
   ·have:j=k+1:=by omega
    rw[this];exact Int.le_refl _
theorem built_ex {p q s t:Int}(p2:2≤p)(a:Int→Int):∀ i:Nat,∃ rows,Built p q s t a i rows
 | 0=>⟨_,.zero⟩
 | i+1=>by
  obtain⟨rows,B⟩:=built_ex (q:=q) (s:=s) (t:=t) p2 a i
  obtain⟨k0,h1,h2⟩:=low_ex a s i (p.toNat-1)
  exact⟨_,.succ B ⟨k0,by omega,rfl,fun k hk=>h2 k (by omega)⟩⟩
theorem built_mem {p q s t:Int}{a:Int→Int}{i:Nat}{rows:List (Int×Int×Int)}(B:Built p q s t a i rows):∀ z∈rows,z.1=p∨z.1=q:=by
 induction B with
 | zero=>exact fun t ht=>(nomatch ht)
 | succ B lo ih =>
  intro t ht
  rcases List.mem_append.mp ht with g | g
  ·exact ih t g
  ·unfold cr at g
   rcases List.mem_append.mp g with g | g
   ·obtain⟨k,_,rfl⟩:=List.mem_map.mp g;simp
   ·obtain⟨k,_,rfl⟩:=List.mem_map.mp g;simp
theorem likely_ex {n:Nat}{ps:List (Int×Int)}(n1:1≤n)(hp:Parts n ps)(l2:ps.length≤2)(a:Int→Int):∃ rows,zFw n a (ps.map Prod.fst) rows:=by
 match ps,l2,hp with
 | [],_,_=>exact⟨[],rfl⟩
 | [x],_,_=>exact⟨_,rfl⟩
 | [x,y],_,hp =>
  obtain⟨m,T2,em⟩:=zFn n1 hp rfl
  obtain⟨rows,B⟩:=built_ex (q:=y.1) (s:=y.1*m) (t:=x.1*m) T2.p2 a m
  exact⟨rows,m,T2,B⟩
theorem zEn {n:Nat}{ps:List (Int×Int)}(n1:1≤n)(hp:Parts n ps)(l2:ps.length≤2){f:Int→Int}(hf:Ld.Per n f)(ev:Ev n (ps.map Prod.fst) f):rst n f=fun _=>0:=by
 have len2:(ps.map Prod.fst).length≤2:=by rw[List.length_map];exact l2
 have pd:∀ p∈ps.map Prod.fst,2≤p∧p∣(n:Int):=fun p hp'=>by
  obtain⟨x,hx,rfl⟩:=List.mem_map.mp hp'
  exact⟨(hp.row x hx).pr.1,((Pt.vG hp x).mp hx).2.1⟩
 have ndp:(ps.map Prod.fst).Nodup:=List.Pairwise.map Prod.fst (fun x y h=>by omega) hp.srt
 obtain⟨rows,L⟩:=likely_ex n1 hp l2 f
 have val:=L.val n1 len2 pd hf ev
 have mem:∀ t∈rows,t.1∈ps.map Prod.fst:=by
  match ps,l2,hp,L with
  | [],_,_,L=>rw[show rows=[] from L];exact fun t ht=>(nomatch ht)
  | [x],_,_,L =>
   rw[show rows=_ from L]
   intro t ht
   obtain⟨h,_,rfl⟩:=List.mem_map.mp ht
   simp
  | [x,y],_,_,L =>
   obtain⟨m,T2,B⟩:=L
   exact fun t ht=>by rcases built_mem B t ht with g | g <;> simp [g]
 have e:f=Rg.rvs n rows:=funext fun x=>(val x).symm
 rw[e]
 exact rst_rows n1 hp mem
theorem ev_of_rst {n:Nat}{ps:List (Int×Int)}(n1:1≤n)(hp:Parts n ps)(l2:ps.length≤2){f:Int→Int}(hf:Ld.Per n f)(h:rst n f=fun _=>0):Ev n (ps.map Prod.fst) f:=by
 obtain⟨l,ps',hl⟩:=zFa n1
 have e:=Pt.w9 hl.hp hp
 subst e
 rw[jJ hl] at h
 have pc:∀ z∈l,Pc n z.1.1 z.1.2 z.2:=fun z hz=>hl.pc hz
 have mp:=hl.map
 match ps',l,mp,l2,pc,h with
 | [],[],_,_,_,h=>exact fun x=>congrFun h x
 | [_],[z],mp,_,pc,h =>
  have ez:z.1=_:=(List.cons.inj mp).1
  rw[← ez]
  intro x
  have h0:∀ x,f x=f (dl n z.1.1 z.1.2 z.2 x):=fun x=>by
   have:=congrFun h x
   change f x-f (dl n z.1.1 z.1.2 z.2 x)=0 at this
   omega
  show f (x+(n:Int)/z.1.1)=f x
  rw[h0,h0 x]
  exact part_inv (pc z (by simp)) hf x
 | [_,_],[z,y],mp,_,pc,h =>
  have ez:z.1=_:=(List.cons.inj mp).1
  have ey:y.1=_:=(List.cons.inj (List.cons.inj mp).2).1
  rw[← ez,← ey]
  have hz:=pc z (by simp)
  have hy:=pc y (by simp)
  have pe:=hz.E_per hf
  have h0:∀ x,E n z.1.1 z.1.2 z.2 f x=E n z.1.1 z.1.2 z.2 f (dl n y.1.1 y.1.2 y.2 x):=fun x=>by
   have:=congrFun h x
   change E n z.1.1 z.1.2 z.2 f x-E n z.1.1 z.1.2 z.2 f (dl n y.1.1 y.1.2 y.2 x)=0 at this
   omega
  have g2:∀ x,E n z.1.1 z.1.2 z.2 f (x+(n:Int)/y.1.1)=E n z.1.1 z.1.2 z.2 f x:=fun x=>by
   rw[h0,h0 x];exact part_inv hy pe x
  have g1:∀ x,f (dl n z.1.1 z.1.2 z.2 (x+(n:Int)/z.1.1))=f (dl n z.1.1 z.1.2 z.2 x):=fun x=>part_inv hz hf x
  have eq:∀ x,f x=E n z.1.1 z.1.2 z.2 f x+f (dl n z.1.1 z.1.2 z.2 x):=fun x=>by unfold E;omega
  intro x
  show f x-f (x+(n:Int)/z.1.1)-f (x+(n:Int)/y.1.1)+f (x+(n:Int)/z.1.1+(n:Int)/y.1.1)=0
  rw[eq x,eq (x+(n:Int)/z.1.1),eq (x+(n:Int)/y.1.1),eq (x+(n:Int)/z.1.1+(n:Int)/y.1.1),g2,g2,g1]
  have:=g1 (x+(n:Int)/y.1.1)
  rw[show x+(n:Int)/z.1.1+(n:Int)/y.1.1=x+(n:Int)/y.1.1+(n:Int)/z.1.1 by omega,this]
  omega
theorem zero_iff {n m:Nat}{f:Int→Int}{ws:List Int}{c:Int}(n1:1≤n)(hf:Ld.Per n f)(h:Tp n f 1 m ws c):(m=1∧ws=[0]∧c=1)↔rst n f=fun _=>0:=by
 have w:=Tp.whole (J:=n) n1 0
 have e:(fun x=>(0:Int)*dlt n 0 x)=fun _=>(0:Int):=funext fun x=>Int.zero_mul _
 rw[e] at w
 have i:=h.iff w n1 n1 (by decide) (by decide)
 rw[i]
 have s:=same_even (N:=n) (M:=n) (J:=n) (p:=1) (q:=1) n1 n1 (by decide) (by decide) (by omega) (by omega) (f:=f) (g:=fun _=>0) hf (fun _ _ _=>rfl) (b:=1) (c:=1)
 rw[s]
 have e2:(fun x=>fF 1 f x*1-fF 1 (fun _=>(0:Int)) x*1)=f:=funext fun x=>by rw[zDc,zDc];omega
 constructor
 ·intro g;first | (rw[e2] at g;exact g) | (simpa [zDc] using g)
 ·intro g;first | (rw[e2];exact g) | (simpa [zDc] using g)
theorem bent {n:Nat}(n1:1≤n){f:Int→Int}(h:rst n f=fun _=>0)(at_:Int){w:Int}(hw:w≠0):rst n (fun x=>f x+(if x%n=at_%n then w else 0))≠fun _=>0:=fun z=>by
 obtain⟨l,ps,hl⟩:=zFa n1
 obtain⟨j,hj⟩:=hl.bent at_ hw
 rw[rst_add n1,h] at z
 have:=congrFun z j
 rw[jJ hl] at this
 exact hj (by simpa using this)
end Evn
set_option Elab.async false
set_option linter.all false
set_option maxRecDepth 100000
set_option maxHeartbeats 5000000
namespace K95
open PySem L2
def top (i:Nat):Stmt:=PySem.Challenge.pw_evenhub_k95_whole_settings_as_sums.main.body.getD i (.Pass ⟨0,0,0,0⟩)
abbrev j7:Stmt:=top 10
theorem zFv:zV ["one","other","great","small","left"] ["one","other"] (zB j7):=⟨rfl,rfl,rfl,by decide +kernel,rfl,by decide +kernel,by decide +kernel⟩
abbrev zCo:Stmt:=top 11
theorem sc_joint:zV ["one","other"] ["one","other"] (zB zCo):=⟨rfl,rfl,rfl,by decide +kernel,rfl,by decide +kernel,by decide +kernel⟩
abbrev zBd:Stmt:=top 12
theorem sc_euclid:zV ["one","other","bits","rests","counts","turn"] ["one","other","bits"] (zB zBd):=⟨rfl,rfl,rfl,by decide +kernel,rfl,by decide +kernel,by decide +kernel⟩
abbrev wX:Stmt:=top 13
theorem zDg:zV ["pair","turn"] ["pair","turn"] (zB wX):=⟨rfl,rfl,rfl,by decide +kernel,rfl,by decide +kernel,by decide +kernel⟩
abbrev wY:Stmt:=top 14
theorem zCw:zV ["rests","bits","length","behind","turn"] ["rests","bits"] (zB wY):=⟨rfl,rfl,rfl,by decide +kernel,rfl,by decide +kernel,by decide +kernel⟩
abbrev jN:Stmt:=top 15
abbrev zCt:Stmt:=top 17
theorem sc_parts:zV ["n","found","left","p","q"] ["n"] (zB zCt):=⟨rfl,rfl,rfl,by decide +kernel,rfl,by decide +kernel,by decide +kernel⟩
abbrev wC:Stmt:=top 18
theorem zBl:zV ["n","p","q"] ["n","p"] (zB wC):=⟨rfl,rfl,rfl,by decide +kernel,rfl,by decide +kernel,by decide +kernel⟩
abbrev zFc:Stmt:=top 19
theorem sc_back:zV ["step","n","told"] ["step","n"] (zB zFc):=⟨rfl,rfl,rfl,by decide +kernel,rfl,by decide +kernel,by decide +kernel⟩
abbrev zFp:Stmt:=top 21
theorem sc_laid:zV ["n","rows","primes","outcome","p","hole","many"] ["n","rows"] (zB zFp):=⟨rfl,rfl,rfl,by decide +kernel,rfl,by decide +kernel,by decide +kernel⟩
abbrev jE:Stmt:=top 22
theorem zDx:zV ["load","p","hole","many","place"] ["load","p","hole","many"] (zB jE):=⟨rfl,rfl,rfl,by decide +kernel,rfl,by decide +kernel,by decide +kernel⟩
abbrev wL:Stmt:=top 23
theorem zBz:zV ["n","p","hole","step"] ["n","p","hole"] (zB wL):=⟨rfl,rfl,rfl,by decide +kernel,rfl,by decide +kernel,by decide +kernel⟩
abbrev w4:Stmt:=top 25
theorem zDh:zV ["n","many","primes","small","great","count","left"] ["n","many"] (zB w4):=⟨rfl,rfl,rfl,by decide +kernel,rfl,by decide +kernel,by decide +kernel⟩
abbrev wK:Stmt:=top 26
theorem zBw:zV ["n","primes"] ["n"] (zB wK):=⟨rfl,rfl,rfl,by decide +kernel,rfl,by decide +kernel,by decide +kernel⟩
abbrev vU:Stmt:=top 27
theorem zAm:zV ["primes","many"] ["primes","many"] (zB vU):=⟨rfl,rfl,rfl,by decide +kernel,rfl,by decide +kernel,by decide +kernel⟩
abbrev jZ:Stmt:=top 28
theorem zFh:zV ["load","n","primes","rows"] ["load"] (zB jZ):=⟨rfl,rfl,rfl,by decide +kernel,rfl,by decide +kernel,by decide +kernel⟩
abbrev v9:Stmt:=top 29
theorem zBk:zV ["load","primes","p","rows","hole"] ["load","primes"] (zB v9):=⟨rfl,rfl,rfl,by decide +kernel,rfl,by decide +kernel,by decide +kernel⟩
abbrev vR:Stmt:=top 30
theorem zAl:zV ["load","p","other","hole","across","low","rows"] ["load","p","other","hole"] (zB vR):=⟨rfl,rfl,rfl,by decide +kernel,rfl,by decide +kernel,by decide +kernel⟩
abbrev j5:Stmt:=top 32
theorem zFj:zV ["n","many","counts","rows","p","count","holes"] ["n","many"] (zB j5):=⟨rfl,rfl,rfl,by decide +kernel,rfl,by decide +kernel,by decide +kernel⟩
abbrev wD:Stmt:=top 33
theorem zBj:zV ["n","primes"] ["n"] (zB wD):=⟨rfl,rfl,rfl,by decide +kernel,rfl,by decide +kernel,by decide +kernel⟩
abbrev vV:Stmt:=top 34
theorem zAk:zV ["n","small","great","holes","first"] ["n","small","great"] (zB vV):=⟨rfl,rfl,rfl,by decide +kernel,rfl,by decide +kernel,by decide +kernel⟩
abbrev zFd:Stmt:=top 37
theorem sc_hung:zV ["n","hole","weight","outcome"] ["n","hole","weight"] (zB zFd):=⟨rfl,rfl,rfl,by decide +kernel,rfl,by decide +kernel,by decide +kernel⟩
abbrev zFr:Stmt:=top 38
theorem sc_plus:zV ["one","other"] ["one","other"] (zB zFr):=⟨rfl,rfl,rfl,by decide +kernel,rfl,by decide +kernel,by decide +kernel⟩
abbrev wW:Stmt:=top 39
theorem zCx:zV ["one","other"] ["one","other"] (zB wW):=⟨rfl,rfl,rfl,by decide +kernel,rfl,by decide +kernel,by decide +kernel⟩
abbrev zBe:Stmt:=top 40
theorem sc_scaled:zV ["load","many"] ["load","many"] (zB zBe):=⟨rfl,rfl,rfl,by decide +kernel,rfl,by decide +kernel,by decide +kernel⟩
abbrev zCl:Stmt:=top 41
theorem sc_finer:zV ["load","many","n","outcome","hole","weight"] ["load","many"] (zB zCl):=⟨rfl,rfl,rfl,by decide +kernel,rfl,by decide +kernel,by decide +kernel⟩
abbrev vS:Stmt:=top 43
theorem zAo:zV ["p","q"] ["p","q"] (zB vS):=⟨rfl,rfl,rfl,by decide +kernel,rfl,by decide +kernel,by decide +kernel⟩
abbrev zFf:Stmt:=top 44
theorem sc_rest:zV ["load","n","left","rows","p","q","hole","many"] ["load"] (zB zFf):=⟨rfl,rfl,rfl,by decide +kernel,rfl,by decide +kernel,by decide +kernel⟩
abbrev j4:Stmt:=top 45
theorem zFe:zV ["n","p","q","lead"] ["n","p","q"] (zB j4):=⟨rfl,rfl,rfl,by decide +kernel,rfl,by decide +kernel,by decide +kernel⟩
abbrev zCn:Stmt:=top 47
theorem sc_value:zV ["load","bottom","left","n","step","weights","by"] ["load","bottom"] (zB zCn):=⟨rfl,rfl,rfl,by decide +kernel,rfl,by decide +kernel,by decide +kernel⟩
abbrev vN:Stmt:=top 48
theorem jY:zV ["first","others","outcome","number"] ["first","others"] (zB vN):=⟨rfl,rfl,rfl,by decide +kernel,rfl,by decide +kernel,by decide +kernel⟩
abbrev zCq:Stmt:=top 49
theorem sc_whole:zV ["many"] ["many"] (zB zCq):=⟨rfl,rfl,rfl,by decide +kernel,rfl,by decide +kernel,by decide +kernel⟩
abbrev zFs:Stmt:=top 50
theorem sc_turn:zV ["n","hole"] ["n","hole"] (zB zFs):=⟨rfl,rfl,rfl,by decide +kernel,rfl,by decide +kernel,by decide +kernel⟩
abbrev s_on:Stmt:=top 51
theorem sc_on:zV ["x","n"] ["x","n"] (zB s_on):=⟨rfl,rfl,rfl,by decide +kernel,rfl,by decide +kernel,by decide +kernel⟩
abbrev wB:Stmt:=top 52
theorem zBm:zV ["x","y","n"] ["x","y"] (zB wB):=⟨rfl,rfl,rfl,by decide +kernel,rfl,by decide +kernel,by decide +kernel⟩
abbrev zBc:Stmt:=top 53
theorem sc_raised:zV ["x","y","n"] ["x","y","n"] (zB zBc):=⟨rfl,rfl,rfl,by decide +kernel,rfl,by decide +kernel,by decide +kernel⟩
abbrev zCm:Stmt:=top 54
theorem sc_added:zV ["x","y","n"] ["x","y"] (zB zCm):=⟨rfl,rfl,rfl,by decide +kernel,rfl,by decide +kernel,by decide +kernel⟩
abbrev v7:Stmt:=top 56
theorem zBi:zV ["script","k"] ["script","k"] (zB v7):=⟨rfl,rfl,rfl,by decide +kernel,rfl,by decide +kernel,by decide +kernel⟩
abbrev wM:Stmt:=top 57
theorem zCd:zV ["found"] ["found"] (zB wM):=⟨rfl,rfl,rfl,by decide +kernel,rfl,by decide +kernel,by decide +kernel⟩
abbrev wJ:Stmt:=top 58
theorem zBv:zV ["n","made","left","p"] ["n"] (zB wJ):=⟨rfl,rfl,rfl,by decide +kernel,rfl,by decide +kernel,by decide +kernel⟩
abbrev vT:Stmt:=top 59
theorem zAn:zV ["load","rows","n","left","some","seen","row","k","at"] ["load","rows"] (zB vT):=⟨rfl,rfl,rfl,by decide +kernel,rfl,by decide +kernel,by decide +kernel⟩
abbrev wN:Stmt:=top 60
theorem zCi:zV ["cell","n","some","p"] ["cell"] (zB wN):=⟨rfl,rfl,rfl,by decide +kernel,rfl,by decide +kernel,by decide +kernel⟩
abbrev jW:Stmt:=top 61
theorem zFg:zV ["some","many","k","left"] ["some","many"] (zB jW):=⟨rfl,rfl,rfl,by decide +kernel,rfl,by decide +kernel,by decide +kernel⟩
abbrev vH:Stmt:=top 62
theorem jG:zV ["n","many","some","found","good","total","count","hole"] ["n","many","some"] (zB vH):=⟨rfl,rfl,rfl,by decide +kernel,rfl,by decide +kernel,by decide +kernel⟩
abbrev s_law:Stmt:=top 63
theorem sc_law:zV ["script","n","some","cell","load","k","p","j","at","bent","much","found","left"] ["script"] (zB s_law):=⟨rfl,rfl,rfl,by decide +kernel,rfl,by decide +kernel,by decide +kernel⟩
structure Txt (K:PySem.W.Frag)(mg:Str→Option Value)(t_MOST_HOLES:Tok)(t_LEAD_BITS:Tok):Prop where
 g_MOST_HOLES:mg "MOST_HOLES"=some (.int 420 t_MOST_HOLES)
 g_LEAD_BITS:mg "LEAD_BITS"=some (.int 128 t_LEAD_BITS)
 d_divisor:Dn K mg "divisor" j7 ["one","other"]
 d_joint:Dn K mg "joint" zCo ["one","other"]
 d_euclid:Dn K mg "euclid" zBd ["one","other","bits"]
 d_turned_on:Dn K mg "turned_on" wX ["pair","turn"]
 d_next_turn:Dn K mg "next_turn" wY ["rests","bits"]
 d_sure_turn:Dn K mg "sure_turn" jN ["rest","later_rest"]
 d_parts:Dn K mg "parts" zCt ["n"]
 d_prime_power:Dn K mg "prime_power" wC ["n","p"]
 d_back:Dn K mg "back" zFc ["step","n"]
 d_laid:Dn K mg "laid" zFp ["n","rows"]
 d_lay_ring:Dn K mg "lay_ring" jE ["load","p","hole","many"]
 d_ring_holes:Dn K mg "ring_holes" wL ["n","p","hole"]
 d_prime_sum:Dn K mg "prime_sum" w4 ["n","many"]
 d_few_primes:Dn K mg "few_primes" wK ["n"]
 d_one_prime_sum:Dn K mg "one_prime_sum" vU ["primes","many"]
 d_stacked:Dn K mg "stacked" jZ ["load"]
 d_likely_rows:Dn K mg "likely_rows" v9 ["load","primes"]
 d_crossing_rows:Dn K mg "crossing_rows" vR ["load","p","other","hole"]
 d_setting:Dn K mg "setting" j5 ["n","many"]
 d_ring_starts:Dn K mg "ring_starts" wD ["n"]
 d_crossing_last:Dn K mg "crossing_last" vV ["n","small","great"]
 d_hung:Dn K mg "hung" zFd ["n","hole","weight"]
 d_plus:Dn K mg "plus" zFr ["one","other"]
 d_check_fit:Dn K mg "check_fit" wW ["one","other"]
 d_scaled:Dn K mg "scaled" zBe ["load","many"]
 d_finer:Dn K mg "finer" zCl ["load","many"]
 d_first_dropped:Dn K mg "first_dropped" vS ["p","q"]
 d_rest:Dn K mg "rest" zFf ["load"]
 d_dropped:Dn K mg "dropped" j4 ["n","p","q"]
 d_value:Dn K mg "value" zCn ["load","bottom"]
 d_divisor_of_all:Dn K mg "divisor_of_all" vN ["first","others"]
 d_whole:Dn K mg "whole" zCq ["many"]
 d_turn:Dn K mg "turn" zFs ["n","hole"]
 d_on:Dn K mg "on" s_on ["x","n"]
 d_joint_wheel:Dn K mg "joint_wheel" wB ["x","y"]
 d_raised:Dn K mg "raised" zBc ["x","y","n"]
 d_added:Dn K mg "added" zCm ["x","y"]
 d_law_cell_at:Dn K mg "_law_cell_at" v7 ["script","k"]
 d_law_number:Dn K mg "_law_number" wM ["found"]
 d_law_primes:Dn K mg "_law_primes" wJ ["n"]
 d_law_less_rows:Dn K mg "_law_less_rows" vT ["load","rows"]
 d_law_of_two:Dn K mg "_law_of_two" wN ["cell"]
 d_law_can:Dn K mg "_law_can" jW ["some","many"]
 d_law_setting_good:Dn K mg "_law_setting_good" vH ["n","many","some"]
 b_len:mg "len"=none
 b_isinstance:mg "isinstance"=none
 b_int:mg "int"=none
 b_bool:mg "bool"=none
 b_abs:mg "abs"=none
 b_tuple:mg "tuple"=none
 b_list:mg "list"=none
 b_range:mg "range"=none
 b_enumerate:mg "enumerate"=none
 b_min:mg "min"=none
 b_max:mg "max"=none
 b_zip:mg "zip"=none
def spPP:Sp:=fun vs H Q _=>∃ n p:Int,vs=[.int n,.int p]∧1≤n∧n≤10000∧2≤p∧p≤10000∧∀ q,Pt.QEnd n p q→Q (.int q) H
def PairsAt (H:Hp)(r:Addr)(ps:List (Int×Int)):Prop:=∃ as:List Addr,H r=some (.lst (as.map V.ref))∧Paired (fun a (x:Int×Int)=>H a=some (.tup [.int x.1,.int x.2])) as ps
def spParts:Sp:=fun vs H Q _=>∃ n:Int,vs=[.int n]∧1≤n∧n≤10000∧∀ r H' ps,zR H H'→H r=none→PairsAt H' r ps→Pt.Parts n ps→Q (.ref r) H'
section
variable {t_MOST_HOLES:Tok}{P:Program}{w:World}{K:PySem.W.Frag}{mg:Str→Option Value}{base:Heap}{cc tT:Addr}
abbrev lamPos:Pos:=⟨142,26,142,51⟩
abbrev lamQ:Str:=(("crossing_rows":Str) ++ ".<locals>.") ++ "<lambda>"
abbrev LT (tT:Addr)(H:Hp):Prop:=LamT tT lamPos lamQ H
def spLaw (K:PySem.W.Frag)(tT:Addr):Sp:=fun vs H Q _=>∃ (a:Addr)(ns:List Int),vs=[.ref a]∧SqL K H a (ns.map V.int)∧ns.length≤63∧LT tT H∧∀ H',Q (.bl true) H'
theorem zEv (T:Txt K mg t_MOST_HOLES t_LEAD_BITS):Df P w K mg base 1 "prime_power" ["n","p"] spPP:=by
 refine T.d_prime_power.ok zBl (fun vs H Q E h=>?_) (fun f cdv A outer s H vs Q E hr h=>?_)
 ·obtain⟨_,_,rfl,_⟩:=h;rfl
 obtain⟨n,p,rfl,n1,n2,p1,p2,q⟩:=h
 have nd:=zBl.nd
 refine⟨_,(zC (zM (i:=2) nd rfl (Or.inl rfl) zG) (zC (zAd PassesOwn.never (zN jR (zO vK (pv 0) (zO vO (pv 2) (pv 1))) zG (zS _)) (zI (zM (i:=2) nd rfl (Or.inl rfl) (zO vO (pv 2) (pv 1))))) (zI (zT (pv 2))))),?_⟩
 refine⟨fun m σ H'=>H'=H∧∃ q,σ=[some (.int n),some (.int p),some (.int q)]∧Pt.QInv n p q∧m=(n-q).toNat,⟨_,rfl,1,rfl,Pt.q0 n p,rfl⟩,?_⟩
 rintro m σ H' ⟨rfl,z,rfl,hz,rfl⟩
 have z1:=hz.pos
 have z2:=Pt.q_le n1 hz
 have zp:=Pt.q_grow p1 z1
 refine⟨_,rfl,_,rfl,_,rfl,_,_,rfl,rfl,vF (by omega) (by omega),_,_,rfl,rfl,(show 0 < z*p by omega),rfl,_,rfl,?_⟩
 refine jQ (fun c=>?_) (fun c=>?_)
 ·have hq:=Pt.q1 p1 hz (vint c)
  have hl:=Pt.q_le n1 hq
  refine⟨_,fun _ _ h=>h,?_⟩
  refine⟨_,rfl,_,rfl,_,_,rfl,rfl,vF (by omega) (by omega),?_⟩
  exact⟨(n-z*p).toNat,by omega,rfl,_,rfl,hq,rfl⟩
 ·exact⟨_,rfl,q z (Pt.q2 hz (zDj c))⟩
theorem ok_parts (T:Txt K mg t_MOST_HOLES t_LEAD_BITS):Df P w K mg base 2 "parts" ["n"] spParts:=by
 have D_prime_power:=zEv (P:=P) (w:=w) (base:=base) T
 refine T.d_parts.ok sc_parts (fun vs H Q E h=>?_) (fun f cdv A outer s H vs Q E hr h=>?_)
 ·obtain⟨_,rfl,_⟩:=h;rfl
 obtain⟨n,rfl,n1,n2,q⟩:=h
 have nd:=sc_parts.nd
 refine⟨_,(zC (zM (i:=1) nd rfl (Or.inl rfl) (wE zH)) (zC (zM (i:=2) nd rfl (Or.inl rfl) (pv 0)) (zC (zM (i:=3) nd rfl (Or.inl rfl) zG) (zC (zAd PassesOwn.never (zN op_le (zO vO (pv 3) (pv 3)) (pv 2) (zS _)) (zC (zM (i:=4) nd rfl (Or.inl rfl) (zQ D_prime_power (hr.mono (by decide)) (by rfl) (zA (pv 2) (zA (pv 3) zH)))) (zC (vL (zN zEx (pv 4) zG (zS _)) (zC (jK (pe_bm PySem.F.plainAttrs_list PySem.F.slot_list_append PySem.F.type_list_append zBy (pv 1) (zA (wI (zA (pv 3) (zA (pv 4) zH))) zH))) (zI (zM (i:=2) nd rfl (Or.inl rfl) (zO zY (pv 2) (pv 4))))) zX) (zI (zM (i:=3) nd rfl (Or.inl rfl) (zO vX (pv 3) zG)))))) (zC (vL (zN zEx (pv 2) zG (zS _)) (zI (jK (pe_bm PySem.F.plainAttrs_list PySem.F.slot_list_append PySem.F.type_list_append zBy (pv 1) (zA (wI (zA (pv 2) (zA (pv 2) zH))) zH)))) zX) (zI (zT (pv 1)))))))),?_⟩
 refine⟨Nat.zero_le _,fun r hr0=>?_⟩
 refine⟨_,rfl,?_⟩
 refine⟨fun m σ H'=>zR H H'∧∃ (as:List Addr)(ps:List (Int×Int))(left p:Int)(qv:Option V),σ=[some (.int n),some (.ref r),some (.int left),some (.int p),qv] ∧
   H' r=some (.lst (as.map V.ref))∧Paired (fun a (x:Int×Int)=>H' a=some (.tup [.int x.1,.int x.2])) as ps∧Pt.PInv n ps left p∧1≤left∧left≤10000∧2≤p∧p≤10001∧(ps.length:Int)+2≤p∧m=(20000-p).toNat,
  ⟨_,vE (zR.refl H) hr0,[],[],n,2,none,rfl,zD,.nil,Pt.start n,n1,n2,by omega,by omega,by simp,rfl⟩,?_⟩
 rintro m σ H' ⟨sm,as,ps,left,p,qv,rfl,hl,pr,inv,l1,l2,p1,p2,hlen,rfl⟩
 have al:=Paired.length pr
 refine⟨_,rfl,_,rfl,_,_,rfl,rfl,vF (by omega) (by omega),_,rfl,_,_,rfl,rfl,_,rfl,?_⟩
 refine jQ (fun c=>?_) (fun c=>?_)
 ·have hd:=dec c
  have a:=Int.mul_le_mul_of_nonneg_left p1 (show 0≤p by omega)
  refine⟨_,fun _ _ h=>h,?_⟩
  refine⟨_,rfl,_,rfl,left,p,rfl,l1,l2,p1,by omega,fun z hz=>?_⟩
  refine⟨_,rfl,_,_,rfl,rfl,_,rfl,?_⟩
  refine jQ (fun c=>?_) (fun c=>?_)
  ·have z1:=dec c
   have zl:=Pt.q_le l1 hz.inv
   have lp:=Pt.left_pos l1 hz.inv.dv hz.inv.pos
   refine⟨_,rfl,.inl ⟨rfl,_,SqL.of hl⟩,_,rfl,_,rfl,(by show 2≤sizeLine;decide),fun t ht=>?_⟩
   have rt:r≠t:=zJ hl ht
   refine⟨r,_,_,rfl,rfl,(zL rt).trans hl,by rw[List.length_map];exact zAg (by omega),?_⟩
   refine⟨_,rfl,_,rfl,_,_,rfl,rfl,zU (by omega) (by omega),?_⟩
   refine⟨_,rfl,_,_,rfl,rfl,?_⟩
   refine⟨(20000-(p+1)).toNat,by omega,vE (vE sm (sm.free ht)) hr0,as ++ [t],ps ++ [(p,z)],left/z,p+1,some (.int z),rfl,?_,?_,Pt.turnA p1 inv hz z1,lp.1,by omega,by omega,by omega,by rw[List.length_append,List.length_singleton];omega,rfl⟩
   ·rw[zD,List.map_append];rfl
   ·refine Paired.snoc (Paired.zEp pr fun a x e=>?_) ?_
    ·rw[zL (ne_of e hl (fun z=>by cases z)),zL (zJ e ht)];exact e
    ·rw[zL (Ne.symm rt)];exact zD
  ·refine⟨_,rfl,_,_,rfl,rfl,?_⟩
   exact⟨(20000-(p+1)).toNat,by omega,sm,as,ps,left,p+1,some (.int z),rfl,hl,pr,Pt.turnB inv hz (ndec c),l1,l2,by omega,by omega,by omega,rfl⟩
 ·have hd:=ndec c
  refine⟨_,rfl,_,_,rfl,rfl,_,rfl,?_⟩
  refine jQ (fun c=>?_) (fun c=>?_)
  ·have z1:=dec c
   refine⟨_,rfl,.inl ⟨rfl,_,SqL.of hl⟩,_,rfl,_,rfl,(by show 2≤sizeLine;decide),fun t ht=>?_⟩
   have rt:r≠t:=zJ hl ht
   refine⟨r,_,_,rfl,rfl,(zL rt).trans hl,by rw[List.length_map];exact zAg (by omega),?_⟩
   refine⟨_,rfl,?_⟩
   refine q r _ (ps ++ [(left,left)]) (vE (vE sm (sm.free ht)) hr0) hr0 ⟨as ++ [t],?_,?_⟩ (Pt.endA p1 inv hd z1)
   ·rw[zD,List.map_append];rfl
   ·refine Paired.snoc (Paired.zEp pr fun a x e=>?_) ?_
    ·rw[zL (ne_of e hl (fun z=>by cases z)),zL (zJ e ht)];exact e
    ·rw[zL (Ne.symm rt)];exact zD
  ·exact⟨_,rfl,q r H' ps sm hr0 ⟨as,hl,pr⟩ (Pt.endB inv l1 (ndec c))⟩
def spNumber:Sp:=fun vs H Q _=>∃ i:Int,vs=[.int i]∧Q (.bl true) H
theorem zBx (T:Txt K mg t_MOST_HOLES t_LEAD_BITS):Df P w K mg base 1 "_law_number" ["found"] spNumber:=by
 refine T.d_law_number.ok zCd (fun vs H Q E h=>?_) (fun f cdv A outer s H vs Q E hr h=>?_)
 ·obtain⟨_,rfl,_⟩:=h;rfl
 obtain⟨i,rfl,q⟩:=h
 have nd:=zCd.nd
 refine⟨_,(zI (zT (pe_and (zW jI (by rfl) T.b_isinstance L2.wQ (zA (pv 0) (zA (zEb (v:=.ty "int") (by rfl) T.b_int L2.bi_int (by rfl)) zH))) (pe_one (pe_not (zW jI (by rfl) T.b_isinstance L2.wQ (zA (pv 0) (zA (zEb (v:=.ty "bool") (by rfl) T.b_bool L2.bi_bool (by rfl)) zH)))))))),?_⟩
 refine⟨_,rfl,_,_,_,true,rfl,.int i,zDt _,true,rfl,iteT ?_⟩
 exact⟨_,rfl,_,_,_,false,rfl,.int i,L2.kit_ib,false,rfl,q⟩
def spCellAt (K:PySem.W.Frag):Sp:=fun vs H Q _=>∃ (a:Addr)(ns:List Int)(k:Int),vs=[.ref a,.int k]∧SqL K H a (ns.map V.int)∧0≤k∧∀ v:Int,Q (.int v) H
theorem zEt (T:Txt K mg t_MOST_HOLES t_LEAD_BITS):Df P w K mg base 1 "_law_cell_at" ["script","k"] (spCellAt K):=by
 refine T.d_law_cell_at.ok zBi (fun vs H Q E h=>?_) (fun f cdv A outer s H vs Q E hr h=>?_)
 ·obtain⟨_,_,_,rfl,_⟩:=h;rfl
 obtain⟨a,ns,k,rfl,hS,k0,q⟩:=h
 have nd:=zBi.nd
 refine⟨_,(zC (vL (zN zEs (pv 1) (zW zP (by rfl) T.b_len L2.vY (zA (pv 0) zH)) (zS _)) (zI (zT (vA vD (pv 0) (pv 1) (fun _ _=>rfl)))) zX) (zI (zT zG))),?_⟩
 refine⟨_,rfl,_,rfl,a,_,rfl,.inl hS,_,_,rfl,rfl,_,rfl,?_⟩
 refine jQ (fun c=>?_) (fun c=>q 0)
 have hk:=dec c
 rw[List.length_map] at hk
 obtain⟨v,hv,_⟩:=atI_in k0 hk
 exact⟨_,rfl,_,rfl,a,_,_,_,rfl,rfl,hS,hv,q v⟩
def spNext:Sp:=fun vs H Q _=>∃ (r:Addr)(a b:Int),vs=[.ref r,.int 0]∧H r=some (.tup [.int a,.int b])∧0≤a∧a≤10000∧1≤b∧b≤10000∧∀ t H',zR H H'→H' t=some (.tup [.int 0,.int 1,.int 1,.int (-(a/b))])→Q (.ref t) H'
theorem ok_next_turn (T:Txt K mg t_MOST_HOLES t_LEAD_BITS):Df P w K mg base 1 "next_turn" ["rests","bits"] spNext:=by
 refine T.d_next_turn.ok zCw (fun vs H Q E h=>?_) (fun f cdv A outer s H vs Q E hr h=>?_)
 ·obtain⟨_,_,_,rfl,_⟩:=h;rfl
 obtain⟨r,a,b,rfl,hR,a0,a1,b0,b1,q⟩:=h
 have nd:=zCw.nd
 have i0:atI [V.int a,V.int b] 0=some (.int a):=rfl
 have i1:atI [V.int a,V.int b] 1=some (.int b):=rfl
 have ba:bts a≤64:=bts_le (by omega)
 have bb:bts b≤64:=bts_le (by omega)
 refine⟨_,(zC (zM (i:=2) nd rfl (Or.inl rfl) (zW (zEc rfl) (by rfl) T.b_min L2.bi_min (zA (pe_bm0 PySem.F.plainAttrs_int PySem.F.slot_int_bit_length PySem.F.type_int_bit_length mt_bits (vA vC (pv 0) zG (fun _ _=>rfl))) (zA (pe_bm0 PySem.F.plainAttrs_int PySem.F.slot_int_bit_length PySem.F.type_int_bit_length mt_bits (vA vC (pv 0) zG (fun _ _=>rfl))) zH)))) (zC (vL (zN zEx (pv 2) (zO vX (pv 1) (pe_glob (v:=.int 128) (by rfl) T.g_LEAD_BITS ⟨_,rfl⟩)) (zS _)) pss_none zX) (zI (zT (wI (zA zG (zA zG (zA zG (zA (pe_un un_neg (zO zY (vA vC (pv 0) zG (fun _ _=>rfl)) (vA vC (pv 0) zG (fun _ _=>rfl)))) zH))))))))),?_⟩
 refine⟨_,rfl,r,_,_,_,rfl,rfl,SqT.of hR,i0,rfl,_,rfl,rfl,_,rfl,r,_,_,_,rfl,rfl,SqT.of hR,i1,rfl,_,rfl,rfl,_,_,rfl,?_⟩
 refine⟨_,rfl,_,rfl,_,_,rfl,rfl,_,_,rfl,rfl,_,rfl,?_⟩
 refine jQ (fun c=>?_) (fun _=>?_)
 ·exfalso
  have c':=dec c
  split at c' <;> omega
 refine⟨_,rfl,r,_,_,_,rfl,rfl,SqT.of hR,i0,_,rfl,r,_,_,_,rfl,rfl,SqT.of hR,i1,_,_,rfl,rfl,zU (by omega) (by omega),_,rfl,(by show 4≤sizeLine;decide),fun t ht=>?_⟩
 exact q t _ (zK (zR.refl _) ht) zD
def spTurnOn:Sp:=fun vs H Q _=>∃ (r1 r2:Addr)(x y k:Int),vs=[.ref r1,.ref r2]∧H r1=some (.tup [.int x,.int y])∧H r2=some (.tup [.int 0,.int 1,.int 1,.int k])∧-10000≤k∧k≤10000∧∀ t H',zR H H'→H' t=some (.tup [.int y,.int (x+k*y)])→Q (.ref t) H'
theorem ok_turned_on (T:Txt K mg t_MOST_HOLES t_LEAD_BITS):Df P w K mg base 1 "turned_on" ["pair","turn"] spTurnOn:=by
 refine T.d_turned_on.ok zDg (fun vs H Q E h=>?_) (fun f cdv A outer s H vs Q E hr h=>?_)
 ·obtain⟨_,_,_,_,_,rfl,_⟩:=h;rfl
 obtain⟨r1,r2,x,y,k,rfl,h1,h2,k0,k1,q⟩:=h
 have nd:=zDg.nd
 have p0:atI [V.int x,V.int y] 0=some (.int x):=rfl
 have p1:atI [V.int x,V.int y] 1=some (.int y):=rfl
 have t0:atI [V.int 0,V.int 1,V.int 1,V.int k] 0=some (.int 0):=rfl
 have t1:atI [V.int 0,V.int 1,V.int 1,V.int k] 1=some (.int 1):=rfl
 have t2:atI [V.int 0,V.int 1,V.int 1,V.int k] 2=some (.int 1):=rfl
 have t3:atI [V.int 0,V.int 1,V.int 1,V.int k] 3=some (.int k):=rfl
 refine⟨_,(zI (zT (wI (zA (zO vX (zO vO (vA vC (pv 1) zG (fun _ _=>rfl)) (vA vC (pv 0) zG (fun _ _=>rfl))) (zO vO (vA vC (pv 1) zG (fun _ _=>rfl)) (vA vC (pv 0) zG (fun _ _=>rfl)))) (zA (zO vX (zO vO (vA vC (pv 1) zG (fun _ _=>rfl)) (vA vC (pv 0) zG (fun _ _=>rfl))) (zO vO (vA vC (pv 1) zG (fun _ _=>rfl)) (vA vC (pv 0) zG (fun _ _=>rfl)))) zH))))),?_⟩
 refine⟨_,rfl,r2,_,_,_,rfl,rfl,SqT.of h2,t0,_,rfl,r1,_,_,_,rfl,rfl,SqT.of h1,p0,_,_,rfl,rfl,vF (by decide) (by decide),_,rfl,r2,_,_,_,rfl,rfl,SqT.of h2,t1,_,rfl,r1,_,_,_,rfl,rfl,SqT.of h1,p1,_,_,rfl,rfl,vF (by decide) (by decide),_,_,rfl,rfl,?_⟩
 refine⟨_,rfl,r2,_,_,_,rfl,rfl,SqT.of h2,t2,_,rfl,r1,_,_,_,rfl,rfl,SqT.of h1,p0,_,_,rfl,rfl,vF (by decide) (by decide),_,rfl,r2,_,_,_,rfl,rfl,SqT.of h2,t3,_,rfl,r1,_,_,_,rfl,rfl,SqT.of h1,p1,_,_,rfl,rfl,vF (by omega) (by omega),_,_,rfl,rfl,?_⟩
 refine⟨(by show 2≤sizeLine;decide),fun t ht=>?_⟩
 have e1:0*x+1*y=y:=by omega
 have e2:1*x+k*y=x+k*y:=by omega
 dsimp only
 rw[e1,e2]
 exact q t _ (zK (zR.refl _) ht) zD
def spEuclid:Sp:=fun vs H Q _=>∃ (n st:Int),vs=[.int n,.int (st%n),.int 0]∧1≤n∧n≤10000∧∀ g c d t H',0≤g→Eh.Bk st n g c 0 d→zR H H'→H' t=some (.tup [.int g,.int c,.int 0,.int d])→Q (.ref t) H'
theorem ok_euclid (T:Txt K mg t_MOST_HOLES t_LEAD_BITS):Df P w K mg base 2 "euclid" ["one","other","bits"] spEuclid:=by
 have D_next_turn:=ok_next_turn (P:=P) (w:=w) (base:=base) T
 have D_turned_on:=ok_turned_on (P:=P) (w:=w) (base:=base) T
 refine T.d_euclid.ok sc_euclid (fun vs H Q E h=>?_) (fun f cdv A outer s H vs Q E hr h=>?_)
 ·obtain⟨_,_,rfl,_⟩:=h;rfl
 obtain⟨n,st,rfl,n1,n2,q⟩:=h
 have nd:=sc_euclid.nd
 have b0:=Eh.bk0E (st:=st) (show 0 < n by omega)
 refine⟨_,(zC (zM (i:=3) nd rfl (Or.inl rfl) (wI (zA (pv 0) (zA (pv 1) zH)))) (zC (zM (i:=4) nd rfl (Or.inl rfl) (wI (zA zG (zA zG zH)))) (zC (zAd PassesOwn.never (zN zEx (pe_bm0 PySem.F.plainAttrs_int PySem.F.slot_int_bit_length PySem.F.type_int_bit_length mt_bits (vA vC (pv 3) zG (fun _ _=>rfl))) (pv 2) (zS _)) (zC (zM (i:=5) nd rfl (Or.inl rfl) (zQ D_next_turn (hr.mono (by decide)) (by rfl) (zA (pv 3) (zA (pv 2) zH)))) (zC (zM (i:=3) nd rfl (Or.inl rfl) (zQ D_turned_on (hr.mono (by decide)) (by rfl) (zA (pv 3) (zA (pv 5) zH)))) (zI (zM (i:=4) nd rfl (Or.inl rfl) (zQ D_turned_on (hr.mono (by decide)) (by rfl) (zA (pv 4) (zA (pv 5) zH)))))))) (zI (zT (wI (zA (vA vC (pv 3) zG (fun _ _=>rfl)) (zA (vA vC (pv 4) zG (fun _ _=>rfl)) (zA (vA vC (pv 3) zG (fun _ _=>rfl)) (zA (vA vC (pv 4) zG (fun _ _=>rfl)) zH)))))))))),?_⟩
 refine⟨_,rfl,_,rfl,(by show 2≤sizeLine;decide),fun ra hra=>?_⟩
 refine⟨(by show 2≤sizeLine;decide),fun ca hca=>?_⟩
 have sm0:zR H (upd (upd H ra (.tup [.int n,.int (st%n)])) ca (.tup [.int 0,.int 1])):=zK (zK (zR.refl _) hra) hca
 have hr0:upd (upd H ra (.tup [.int n,.int (st%n)])) ca (.tup [.int 0,.int 1]) ra=some (.tup [.int n,.int (st%n)]):=(zL (zJ zD hca)).trans zD
 have hc0:upd (upd H ra (.tup [.int n,.int (st%n)])) ca (.tup [.int 0,.int 1]) ca=some (.tup [.int 0,.int 1]):=zD
 generalize upd (upd H ra (.tup [.int n,.int (st%n)])) ca (.tup [.int 0,.int 1])=H0 at sm0 hr0 hc0 ⊢
 refine⟨fun m σ H'=>zR H H'∧∃ (ra ca:Addr)(r c lr lc:Int)(tv:Option V),σ=[some (.int n),some (.int (st%n)),some (.int 0),some (.ref ra),some (.ref ca),tv]∧H' ra=some (.tup [.int r,.int lr])∧H' ca=some (.tup [.int c,.int lc])∧0≤r∧r≤10000∧0≤lr∧lr≤10000∧Eh.Bk st n r c lr lc∧m=lr.toNat,
  ⟨_,sm0,ra,ca,n,0,st%n,1,none,rfl,hr0,hc0,by omega,by omega,b0.1,by omega,b0.2.2,rfl⟩,?_⟩
 rintro m σ H' ⟨sm,ra,ca,r,c,lr,lc,tv,rfl,hR,hC,r0,r1,l0,l1,bk,rfl⟩
 have i0:atI [V.int r,V.int lr] 0=some (.int r):=rfl
 have i1:atI [V.int r,V.int lr] 1=some (.int lr):=rfl
 have c0:atI [V.int c,V.int lc] 0=some (.int c):=rfl
 have c1:atI [V.int c,V.int lc] 1=some (.int lc):=rfl
 refine⟨_,rfl,ra,_,_,_,rfl,rfl,SqT.of hR,i1,rfl,_,rfl,rfl,_,rfl,_,_,rfl,rfl,_,rfl,?_⟩
 refine jQ (fun c'=>?_) (fun c'=>?_)
 ·have ne:=bts_pos (dec c')
  have t:=Eh.bktE r0 l0 ne bk
  have dl:=Eh.div_le r0 (show 0 < lr by omega)
  refine⟨_,fun _ _ h=>h,?_⟩
  refine⟨_,rfl,_,rfl,ra,r,lr,rfl,hR,r0,r1,by omega,l1,fun ta H1 sm1 h1=>?_⟩
  refine⟨_,rfl,_,rfl,ra,ta,r,lr,_,rfl,sm1 _ _ hR,h1,by omega,by omega,fun rb H2 sm2 h2=>?_⟩
  refine⟨_,rfl,_,rfl,ca,ta,c,lc,_,rfl,sm2 _ _ (sm1 _ _ hC),sm2 _ _ h1,by omega,by omega,fun cb H3 sm3 h3=>?_⟩
  have e1:r + -(r/lr)*lr=r-r/lr*lr:=by rw[Int.neg_mul];omega
  have e2:c + -(r/lr)*lc=c-r/lr*lc:=by rw[Int.neg_mul];omega
  rw[e1] at h2
  rw[e2] at h3
  exact⟨_,t.2.2.1,((sm.trans sm1).trans sm2).trans sm3,rb,cb,_,_,_,_,_,rfl,sm3 _ _ h2,h3,l0,l1,t.1,by omega,t.2.2.2,rfl⟩
 ·have z:lr=0:=bts_zero (ndec c')
  subst z
  refine⟨_,rfl,ra,_,_,_,rfl,rfl,SqT.of hR,i0,_,rfl,ca,_,_,_,rfl,rfl,SqT.of hC,c0,_,rfl,ra,_,_,_,rfl,rfl,SqT.of hR,i1,_,rfl,ca,_,_,_,rfl,rfl,SqT.of hC,c1,(by show 4≤sizeLine;decide),fun t ht=>?_⟩
  exact q r c lc t _ r0 bk (zK sm ht) zD
def spBack:Sp:=fun vs H Q _=>∃ st n:Int,vs=[.int st,.int n]∧1≤n∧n≤10000∧Eh.G st n=1∧∀ (u:Int) H',1≤u→u≤n→(st*u-1)%n=0→zR H H'→Q (.int u) H'
theorem ok_back (T:Txt K mg t_MOST_HOLES t_LEAD_BITS):Df P w K mg base 3 "back" ["step","n"] spBack:=by
 have D_euclid:=ok_euclid (P:=P) (w:=w) (base:=base) T
 refine T.d_back.ok sc_back (fun vs H Q E h=>?_) (fun f cdv A outer s H vs Q E hr h=>?_)
 ·obtain⟨_,_,rfl,_⟩:=h;rfl
 obtain⟨st,n,rfl,n1,n2,g1,q⟩:=h
 have nd:=sc_back.nd
 refine⟨_,(zC (zM (i:=2) nd rfl (Or.inl rfl) (zQ D_euclid (hr.mono (by decide)) (by rfl) (zA (pv 1) (zA (zO vK (pv 0) (pv 1)) (zA zG zH))))) (zC (vL (zN zEy (vA vC (pv 2) zG (fun _ _=>rfl)) zG (zS _)) (zI jS) zX) (zI (zT (zO vX (zO vK (zO zAs (vA vC (pv 2) zG (fun _ _=>rfl)) zG) (pv 1)) zG))))),?_⟩
 refine⟨_,rfl,_,rfl,_,rfl,_,_,rfl,rfl,(show 0 < n by omega),n,st,rfl,n1,n2,fun g c d t H1 g0 bk sm1 h1=>?_⟩
 have i0:atI [V.int g,V.int c,V.int 0,V.int d] 0=some (.int g):=rfl
 have i1:atI [V.int g,V.int c,V.int 0,V.int d] 1=some (.int c):=rfl
 have eg:g=1:=(Eh.out g0 bk.g rfl).trans g1
 refine⟨_,rfl,t,_,_,_,rfl,rfl,SqT.of h1,i0,rfl,_,rfl,iteNS (congrArg V.int eg) ?_⟩
 have o:=Eh.bkoE (show 0 < n by omega) g0 bk rfl g1
 refine⟨_,rfl,t,_,_,_,rfl,rfl,SqT.of h1,i1,_,_,rfl,rfl,_,rfl,_,_,rfl,rfl,(show 0 < n by omega),_,_,rfl,rfl,?_⟩
 exact q _ _ o.1 o.2.1 o.2.2 sm1
def spPrimes:Sp:=fun vs H Q _=>∃ n:Nat,vs=[.int n]∧1≤n∧n≤420∧∀ r H' ps,zR H H'→H r=none→H' r=some (.lst ((ps.map Prod.fst).map V.int))→Pt.Parts n ps→Q (.ref r) H'
theorem zAc (T:Txt K mg t_MOST_HOLES t_LEAD_BITS):Df P w K mg base 1 "_law_primes" ["n"] spPrimes:=by
 refine T.d_law_primes.ok zBv (fun vs H Q E h=>?_) (fun f cdv A outer s H vs Q E hr h=>?_)
 ·obtain⟨_,rfl,_⟩:=h;rfl
 obtain⟨n,rfl,n1,n2,q⟩:=h
 have nd:=zBv.nd
 refine⟨_,(zC (zM (i:=1) nd rfl (Or.inl rfl) (wE zH)) (zC (zM (i:=2) nd rfl (Or.inl rfl) (pv 0)) (zC (zM (i:=3) nd rfl (Or.inl rfl) zG) (zC (zAd PassesOwn.never (zN zEx (pv 2) zG (zS _)) (zC (vL (zN jR (zO vK (pv 2) (pv 3)) zG (zS _)) (zC (jK (pe_bm PySem.F.plainAttrs_list PySem.F.slot_list_append PySem.F.type_list_append zBy (pv 1) (zA (pv 3) zH))) (zI (zAd PassesOwn.never (zN jR (zO vK (pv 2) (pv 3)) zG (zS _)) (zI (zM (i:=2) nd rfl (Or.inl rfl) (zO zY (pv 2) (pv 3))))))) zX) (zI (zM (i:=3) nd rfl (Or.inl rfl) (zO vX (pv 3) zG))))) (zI (zT (pv 1))))))),?_⟩
 refine⟨Nat.zero_le _,fun r hr0=>?_⟩
 refine⟨_,rfl,?_⟩
 refine⟨fun m σ H'=>zR H H'∧∃ (left p:Int)(ps:List (Int×Int)),σ=[some (.int n),some (.ref r),some (.int left),some (.int p)]∧H' r=some (.lst ((ps.map Prod.fst).map V.int))∧Pt.PInv n ps left p∧2≤p∧p≤n+2∧1≤left∧left≤n∧(ps.length:Int)≤p∧m=(n+2-p).toNat,
  ⟨_,vE (zR.refl H) hr0,n,2,[],rfl,zD,Pt.start n,by omega,by omega,by omega,by omega,by simp,rfl⟩,?_⟩
 rintro m σ H' ⟨sm,left,p,ps,rfl,hr1,pi,p2,pn,l1,ln,pl,rfl⟩
 refine⟨_,rfl,_,_,rfl,rfl,_,rfl,?_⟩
 refine jQ (fun c=>?_) (fun c=>?_)
 ·have lg:=dec c
  have ple:p≤left:=by
   rcases Int.lt_or_le left p with z | z
   ·exact absurd (Int.dvd_refl left) (pi.nod left (by omega) z)
   ·exact z
  refine⟨_,fun _ _ h=>h,?_⟩
  refine⟨_,rfl,_,rfl,_,_,rfl,rfl,(show 0 < p by omega),rfl,_,rfl,?_⟩
  refine jQ (fun d=>?_) (fun d=>?_)
  ·have d0:=vint d
   refine⟨_,rfl,.inl ⟨rfl,_,SqL.of hr1⟩,_,rfl,r,_,_,rfl,rfl,hr1,by rw[List.length_map,List.length_map];exact zAg (by omega),?_⟩
   have hr2:upd H' r (.lst ((ps.map Prod.fst).map V.int ++ [.int p])) r=some (.lst (((ps.map Prod.fst) ++ [p]).map V.int)):=by rw[zD,List.map_append];rfl
   have sm2:zR H (upd H' r (.lst ((ps.map Prod.fst).map V.int ++ [.int p]))):=vE sm hr0
   generalize upd H' r (.lst ((ps.map Prod.fst).map V.int ++ [.int p]))=H2 at hr2 sm2 ⊢
   refine⟨fun m σ H3=>H3=H2∧∃ (l2 z:Int),σ=[some (.int n),some (.ref r),some (.int l2),some (.int p)]∧Pt.QInv left p z∧l2*z=left∧1≤l2∧l2≤left∧m=l2.toNat,
    ⟨_,rfl,left,1,rfl,Pt.q0 left p,by omega,l1,by omega,rfl⟩,?_⟩
   rintro m' σ H3 ⟨rfl,l2,z,rfl,qi,e,l21,l2l,rfl⟩
   refine⟨_,rfl,_,rfl,_,_,rfl,rfl,(show 0 < p by omega),rfl,_,rfl,?_⟩
   refine jQ (fun d2=>?_) (fun d2=>?_)
   ·have d2':=vint d2
    obtain⟨t,ht⟩:=Int.dvd_of_emod_eq_zero d2'
    have et:l2/p=t:=by rw[ht];exact Int.mul_ediv_cancel_left _ (by omega)
    have t1:1≤t:=by
     rcases Int.lt_or_le t 1 with y | y
     ·have:=Int.mul_le_mul_of_nonneg_left (show t≤0 by omega) (show 0≤p by omega);omega
     ·exact y
    have tl:t < l2:=by have:=Int.mul_le_mul_of_nonneg_right p2 (show 0≤t by omega);omega
    have dz:left%(z*p)=0:=Int.emod_eq_zero_of_dvd ⟨t,by rw[← e,ht,Int.mul_comm (p*t) z,Int.mul_assoc]⟩
    refine⟨_,fun _ _ h=>h,?_⟩
    refine⟨_,rfl,_,rfl,_,_,rfl,rfl,zU (by omega) (by omega),?_⟩
    dsimp only
    rw[et]
    exact⟨t.toNat,by omega,rfl,t,z*p,rfl,Pt.q1 p2 qi dz,by rw[← e,ht,Int.mul_comm z p,← Int.mul_assoc,Int.mul_comm t p],t1,by omega,rfl⟩
   ·have nd2:=zDj d2
    have zp:=qi.pos
    have qe:Pt.QEnd left p z:=Pt.q2 qi fun y=>nd2 (by
     obtain⟨t,ht⟩:=Int.dvd_of_emod_eq_zero y
     rw[← e,Int.mul_comm l2 z,Int.mul_assoc] at ht
     have:=Int.eq_of_mul_eq_mul_left (show z≠0 by omega) ht
     rw[this];exact Int.mul_emod_right _ _)
    have z1:z > 1:=by
     rcases Int.lt_or_le 1 z with y | y
     ·exact y
     ·have:z=1:=by omega
      rw[this,Int.mul_one] at e
      exact absurd d0 (by rw[← e];exact nd2)
    have lz:left/z=l2:=by rw[← e];exact Int.mul_ediv_cancel _ (by omega)
    have pi2:=Pt.turnA p2 pi qe z1
    rw[lz] at pi2
    refine⟨_,rfl,_,_,rfl,rfl,?_⟩
    refine⟨(n+2-(p+1)).toNat,by omega,sm2,l2,p+1,ps ++ [(p,z)],rfl,?_,pi2,by omega,by omega,l21,by omega,by simp;omega,rfl⟩
    rw[List.map_append];exact hr2
  ·have nd0:=zDj d
   have qe:Pt.QEnd left p 1:=Pt.q2 (Pt.q0 left p) (by rw[Int.one_mul];exact nd0)
   refine⟨_,rfl,_,_,rfl,rfl,?_⟩
   exact⟨(n+2-(p+1)).toNat,by omega,sm,left,p+1,ps,rfl,hr1,Pt.turnB pi qe (by omega),by omega,by omega,l1,ln,by omega,rfl⟩
 ·have:=ndec c
  exact⟨_,rfl,q r H' ps sm hr0 hr1 (Pt.endB pi l1 (by omega))⟩
def spLay:Sp:=fun vs H Q _=>∃ (r:Addr)(a:List Int)(n:Nat)(p hole many:Int),vs=[.ref r,.int p,.int hole,.int many]∧H r=some (.lst (a.map V.int))∧a.length=n∧1≤n∧n≤420∧2≤p∧p∣(n:Int) ∧
 ∀ H' b,(∀ c o,c≠r→H c=some o→H' c=some o)→H' r=some (.lst (b.map V.int))→b.length=n→(∀ x,Ld.at' b x=Ld.at' a x+Rg.rv n (p,hole,many) x)→Q .non H'
def spRH:Sp:=fun vs H Q _=>∃ (n:Nat)(p hole:Int)(st:Nat),vs=[.int n,.int p,.int hole]∧1≤n∧n≤420∧2≤p∧p.toNat≤n∧(n:Int)/p=st∧0 < st∧n=p.toNat*st∧∀ t,H t=none→Q (.ref t) (upd H t (.lst ((rg3 (hole%st) st p.toNat).map V.int)))
theorem jD (T:Txt K mg t_MOST_HOLES t_LEAD_BITS):Df P w K mg base 1 "ring_holes" ["n","p","hole"] spRH:=by
 refine T.d_ring_holes.ok zBz (fun vs H Q E h=>?_) (fun f cdv A outer s H vs Q E hr h=>?_)
 ·obtain⟨_,_,_,_,rfl,_⟩:=h;rfl
 obtain⟨n,p,hole,st,rfl,n1,n2,p2,pn,est,st0,enp,q⟩:=h
 have nd:=zBz.nd
 have stn:(st:Int)≤n:=by rw[← est];exact Int.ediv_le_self _ (by omega)
 have lo0:=Int.emod_nonneg hole (show (st:Int)≠0 by omega)
 have lo1:=Int.emod_lt_of_pos hole (show (0:Int) < st by omega)
 refine⟨_,(zC (zM (i:=3) nd rfl (Or.inl rfl) (zO zY (pv 0) (pv 1))) (zI (zT (pe_lrng3 rfl (by rfl) T.b_list (by rfl) T.b_range (zA (zO vK (pv 2) (pv 3)) (zA (pv 0) (zA (pv 3) zH))))))),?_⟩
 refine⟨_,rfl,_,rfl,_,_,rfl,rfl,zU (by omega) (by omega),?_⟩
 dsimp only
 rw[est]
 refine⟨_,rfl,_,rfl,_,_,rfl,rfl,(show (0:Int) < st by omega),_,rfl,_,rfl,_,_,_,rfl,⟨lo0,by omega,by omega,by omega,by omega,by omega⟩,?_⟩
 have cn:=Rg.cnt_ring st0 (show 0 < p.toNat by omega) enp hole
 have c3:cnt3 (hole%(st:Int)) (n:Int) (st:Int)=p.toNat:=by unfold cnt3;rw[if_pos cn.1];exact cn.2
 rw[c3]
 exact q
theorem zEh (T:Txt K mg t_MOST_HOLES t_LEAD_BITS):Df P w K mg base 2 "lay_ring" ["load","p","hole","many"] spLay:=by
 have D_ring_holes:=jD (P:=P) (w:=w) (base:=base) T
 refine T.d_lay_ring.ok zDx (fun vs H Q E h=>?_) (fun f cdv A outer s H vs Q E hr h=>?_)
 ·obtain⟨_,_,_,_,_,_,rfl,_⟩:=h;rfl
 obtain⟨r,a,n,p,hole,many,rfl,ha,la,n1,n2,p2,pd,q⟩:=h
 have nd:=zDx.nd
 obtain⟨st,est,st0,enp,ple⟩:=Rg.w5 n1 p2 pd
 have stn:(st:Int)≤n:=by rw[← est];exact Int.ediv_le_self _ (by omega)
 refine⟨_,(zI (jA PassesOwn.never rfl (vZ (zQ D_ring_holes (hr.mono (by decide)) (by rfl) (zA (zW zP (by rfl) T.b_len L2.vY (zA (pv 0) zH)) (zA (pv 1) (zA (pv 2) zH))))) (zZ (i:=4) nd rfl (Or.inl rfl)) (zI (zDd (zO vX (vA vD (pv 0) (pv 4) (fun _ _=>rfl)) (pv 3)) (zCu (pv 0) (pv 4) set_list))))),?_⟩
 refine⟨_,rfl,r,_,rfl,.inl (SqL.of ha),_,rfl,_,rfl,n,p,hole,st,by rw[zEw la];rfl,n1,n2,p2,ple,est,st0,enp,fun t ht=>⟨t,rfl,⟨_,SqL.of zD⟩,?_⟩⟩
 have nt:r≠t:=zJ ha ht
 have kp0:∀ c o,c≠r→H c=some o→upd H t (.lst ((rg3 (hole%st) st p.toNat).map V.int)) c=some o:=fun c o _ h=>(zL (zJ h ht)).trans h
 have ha0:upd H t (.lst ((rg3 (hole%st) st p.toNat).map V.int)) r=some (.lst (a.map V.int)):=(zL nt).trans ha
 have ht0:upd H t (.lst ((rg3 (hole%st) st p.toNat).map V.int)) t=some (.lst ((rg3 (hole%st) st p.toNat).map V.int)):=zD
 generalize upd H t (.lst ((rg3 (hole%st) st p.toNat).map V.int))=H0 at kp0 ha0 ht0 ⊢
 have rl:((rg3 (hole%st) st p.toNat).map V.int).length=p.toNat:=by unfold rg3;rw[List.length_map,List.length_map,List.length_range]
 refine zAe (xs:=(rg3 (hole%st) st p.toNat).map V.int) (fun i σ H2=>(∀ c o,c≠r→H c=some o→H2 c=some o)∧H2 t=some (.lst ((rg3 (hole%st) st p.toNat).map V.int))∧∃ (b:List Int)(o1:Option V),σ=[some (.ref r),some (.int p),some (.int hole),some (.int many),o1]∧H2 r=some (.lst (b.map V.int))∧b.length=n ∧
   ∀ x:Int,Ld.at' b x=Ld.at' a x+(if (x-hole)%st=0∧(x%n)/st < (i:Int) then many else 0))
  ⟨kp0,ht0,a,none,rfl,ha0,la,Rg.lay0 (by omega) st0 hole many a⟩ (fun i σ H2 _ z=>SqL.of z.2.1) ?_ ?_
 ·rintro i xv σ H2 hx ⟨kp,ht2,b,o1,rfl,hb,lb,inv⟩
  obtain⟨k,rfl,ek⟩:=int_at hx
  have hi:i < p.toNat:=by have:=(List.getElem?_eq_some_iff.mp hx).1;rwa [rl] at this
  have ek':k=hole%st+(i:Int)*st:=by
   unfold rg3 at ek
   rw[List.getElem?_map,List.getElem?_range hi] at ek
   exact (Option.some.inj ek).symm
  subst ek'
  obtain⟨y0,y1,nx⟩:=Rg.lay1 st0 enp hi lb inv
  refine⟨_,rfl,_,rfl,r,_,_,_,rfl,rfl,SqL.of hb,atI_k y0 (by omega),_,rfl,_,_,rfl,rfl,_,rfl,_,rfl,r,_,_,_,rfl,rfl,hb,ixN_in y0 (by rw[zEw lb];exact y1),?_⟩
  rw[set_int]
  exact⟨fun c o ne h=>(zL ne).trans (kp c o ne h),(zL (Ne.symm nt)).trans ht2,_,_,rfl,zD,by rw[List.length_set,lb],nx⟩
 ·rintro σ H2 ⟨kp,_,b,o1,rfl,hb,lb,inv⟩
  rw[rl] at inv
  refine q H2 b kp hb lb fun x=>?_
  rw[Rg.lay2 st0 (show 0 < p.toNat by omega) enp inv x]
  unfold Rg.rv
  rw[est]
def spLaid:Sp:=fun vs H Q _=>∃ (n:Nat)(r:Addr)(rows:List (Int×Int×Int))(ps:List (Int×Int)),vs=[.int n,.ref r]∧1≤n∧n≤420∧TrAt H r rows∧Pt.Parts n ps∧(∀ x∈rows,x.1∈ps.map Prod.fst) ∧
 (∀ t H' b,zR H H'→H t=none→H' t=some (.lst (b.map V.int))→b.length=n→(∀ x,Ld.at' b x=Rg.rvs n rows x)→Q (.ref t) H')
theorem ok_laid (T:Txt K mg t_MOST_HOLES t_LEAD_BITS):Df P w K mg base 3 "laid" ["n","rows"] spLaid:=by
 have D_parts:=ok_parts (P:=P) (w:=w) (base:=base) T
 have D_lay_ring:=zEh (P:=P) (w:=w) (base:=base) T
 refine T.d_laid.ok sc_laid (fun vs H Q E h=>?_) (fun f cdv A outer s H vs Q E hr h=>?_)
 ·obtain⟨_,_,_,_,rfl,_⟩:=h;rfl
 obtain⟨n,r,rows,ps,rfl,n1,n2,tr,hp,prm,q⟩:=h
 have nd:=sc_laid.nd
 refine⟨_,(zC (zBa (cap:=[]) (tgs:=["prime","power"]) (i:=2) nd rfl (Or.inl rfl) rfl rfl rfl (by decide +kernel) (by decide +kernel) (wT (by rfl)) wR wP (zAa (by decide) (by decide)) (vZ (zQ D_parts (hr.mono (by decide)) (by rfl) (zA (pv 0) zH))) (fun C s H fp=>⟨(zDa rfl (vJ (zZ (i:=0) (show (["prime","power"]:List Str).Nodup by decide +kernel) rfl (Or.inl rfl) (Or.inr rfl)) (vJ (zZ (i:=1) (show (["prime","power"]:List Str).Nodup by decide +kernel) rfl (Or.inl rfl) (Or.inr rfl)) zAp))),jU,(pv 0)⟩)) (zC (zM (i:=3) nd rfl (Or.inl rfl) (zO op_rep (wE (zA zG zH)) (pv 0))) (zC (jA PassesOwn.never rfl (vZ (pv 1)) (zDa rfl (vJ (zZ (i:=4) nd rfl (Or.inl rfl)) (vJ (zZ (i:=5) nd rfl (Or.inl rfl)) (vJ (zZ (i:=6) nd rfl (Or.inl rfl)) zAp)))) (zC (vL (zN zCz (pv 4) (pv 2) (by rfl)) (zI jS) zX) (zI (jK (zQ D_lay_ring (hr.mono (by decide)) (by rfl) (zA (pv 3) (zA (pv 4) (zA (pv 5) (zA (pv 6) zH))))))))) (zI (zT (pv 3)))))),?_⟩
 refine⟨_,rfl,_,rfl,by omega,by omega,fun r1 H1 ps' sm1 _ pa hp'=>?_⟩
 have e:=Pt.w9 hp' hp
 subst e
 obtain⟨as,hl,pr⟩:=pa
 have al:=Paired.length pr
 have lp:(ps'.length:Int)≤n:=Rs.len_parts hp
 refine⟨r1,rfl,⟨_,SqL.of hl⟩,?_⟩
 refine wG (K:=K) (xs:=as.map V.ref) (fun i ys H2=>H2=H1∧ys=((ps'.take i).map Prod.fst).map V.int) ⟨rfl,by simp⟩ (fun i ys H2 _ z=>by rw[z.1];exact SqL.of hl)
  (fun i ys H2 hi z=>by rw[List.length_map] at hi;rw[z.2];simp only [List.length_map,List.length_take];exact zAg (by omega)) ?_ ?_
 ·rintro i x ys H2 hx ⟨rfl,rfl⟩
  obtain⟨a,rfl,ea⟩:=zDe hx
  obtain⟨⟨p,z⟩,ep,ha⟩:=v8 pr ea
  refine⟨a,_,rfl,SqT.of ha,rfl,_,_,rfl,_,_,rfl,rfl,?_⟩
  refine⟨_,rfl,rfl,?_⟩
  rw[Pt.take_snoc ep,List.map_append,List.map_append];rfl
 rintro ys H2 ⟨rfl,rfl⟩ pm hpm
 have et:ps'.take (as.map V.ref).length=ps':=by rw[List.length_map,al,List.take_length]
 rw[et]
 have sm2:zR H (upd H2 pm (.lst ((ps'.map Prod.fst).map V.int))):=zK sm1 hpm
 have hpm2:upd H2 pm (.lst ((ps'.map Prod.fst).map V.int)) pm=some (.lst ((ps'.map Prod.fst).map V.int)):=zD
 generalize upd H2 pm (.lst ((ps'.map Prod.fst).map V.int))=H3 at sm2 hpm2 ⊢
 refine⟨(by show 1≤sizeLine;decide),fun l hl=>⟨_,rfl,l,_,_,rfl,rfl,zD,by omega,by omega,(by show 1*_≤_;exact size2 (by omega)),fun du hdu=>?_⟩⟩
 rw[rep0]
 have ldu:l≠du:=zJ zD hdu
 have du0:H3 du=none:=by rwa [zL (Ne.symm ldu)] at hdu
 have sm0:zR H3 (upd (upd H3 l (.lst [V.int 0])) du (.lst ((List.replicate n (0:Int)).map V.int))):=vE (vE (zR.refl H3) hl) du0
 have hd0:upd (upd H3 l (.lst [V.int 0])) du (.lst ((List.replicate n (0:Int)).map V.int)) du=some (.lst ((List.replicate n (0:Int)).map V.int)):=zD
 generalize upd (upd H3 l (.lst [V.int 0])) du (.lst ((List.replicate n (0:Int)).map V.int))=H0 at sm0 hd0 ⊢
 obtain⟨rs,hrs,prs⟩:=tr
 have rl:=Paired.length prs
 refine⟨_,rfl,r,rfl,⟨_,(sm2.trans sm0).seq (SqL.of (K:=K) hrs)⟩,?_⟩
 refine zAe (xs:=rs.map V.ref) (fun i σ H4=>zR H3 H4∧(∀ x∈rows.take i,x.1∈ps'.map Prod.fst)∧∃ (b:List Int)(o1 o2 o3:Option V),σ=[some (.int n),some (.ref r),some (.ref pm),some (.ref du),o1,o2,o3]∧H4 du=some (.lst (b.map V.int))∧b.length=n∧∀ x,Ld.at' b x=Rg.rvs n (rows.take i) x)
  ⟨sm0,(by simp),List.replicate n 0,none,none,none,rfl,hd0,by simp,fun x=>by rw[Ld.zEm];rfl⟩ (fun i σ H4 _ z=>(sm2.trans z.1).seq (SqL.of hrs)) ?_ ?_
 ·rintro i x σ H4 hx ⟨sm4,al4,b,o1,o2,o3,rfl,hb,lb,inv⟩
  obtain⟨a,rfl,ea⟩:=zDe hx
  obtain⟨⟨p,hole,many⟩,ep,ha⟩:=v8 prs ea
  have ha4:=sm4 _ _ (sm2 _ _ ha)
  refine⟨a,_,rfl,SqT.of ha4,rfl,_,_,rfl,_,_,rfl,_,_,rfl,rfl,?_⟩
  refine⟨_,rfl,_,rfl,pm,_,rfl,.inl (SqL.of (sm4 _ _ hpm2)),rfl,zEf _,_,rfl,?_⟩
  rw[inV_ints]
  by_cases c:p∈ps'.map Prod.fst
  ·rw[decide_eq_true c]
   refine iteF ?_
   obtain⟨y,hy,ey⟩:=List.mem_map.mp c
   have row:=hp.row y hy
   have pd:p∣(n:Int):=by rw[← ey];exact ((Pt.vG hp y).mp hy).2.1
   have p2:2≤p:=by rw[← ey];exact row.pr.1
   refine⟨_,rfl,_,rfl,_,rfl,_,rfl,du,b,n,p,hole,many,rfl,hb,lb,n1,n2,p2,pd,fun H5 b' kp hb' lb' inv'=>?_⟩
   refine⟨fun c o h=>kp c o (fun z=>by rw[z,du0] at h;cases h) (sm4 c o h),fun x hx=>?_,b',_,_,_,rfl,hb',lb',fun x=>?_⟩
   ·rw[Pt.take_snoc ep] at hx
    rcases List.mem_append.mp hx with z | z
    ·exact al4 x z
    ·rw[List.mem_singleton.mp z];exact c
   ·rw[inv',inv,Pt.take_snoc ep,Rg.rvs_snoc]
  ·rw[decide_eq_false c]
   exact absurd (prm _ (List.mem_of_getElem? ep)) c
 ·rintro σ H4 ⟨sm4,al4,b,o1,o2,o3,rfl,hb,lb,inv⟩
  rw[List.length_map,rl,List.take_length] at inv al4
  exact⟨_,rfl,q du H4 b (sm2.trans sm4) (sm2.free du0) hb lb inv⟩
def spFew:Sp:=fun vs H Q _=>∃ (n:Nat)(ps:List (Int×Int)),vs=[.int n]∧1≤n∧n≤420∧Pt.Parts n ps∧ps.length≤2∧∀ t H',zR H H'→H' t=some (.lst ((ps.map Prod.fst).map V.int))→Q (.ref t) H'
theorem jC (T:Txt K mg t_MOST_HOLES t_LEAD_BITS):Df P w K mg base 3 "few_primes" ["n"] spFew:=by
 have D_parts:=ok_parts (P:=P) (w:=w) (base:=base) T
 refine T.d_few_primes.ok zBw (fun vs H Q E h=>?_) (fun f cdv A outer s H vs Q E hr h=>?_)
 ·obtain⟨_,_,rfl,_⟩:=h;rfl
 obtain⟨n,ps,rfl,n1,n2,hp,l2,q⟩:=h
 have nd:=zBw.nd
 refine⟨_,(zC (zBa (cap:=[]) (tgs:=["p","q"]) (i:=1) nd rfl (Or.inl rfl) rfl rfl rfl (by decide +kernel) (by decide +kernel) (wT (by rfl)) wR wP (zAa (by decide) (by decide)) (vZ (zQ D_parts (hr.mono (by decide)) (by rfl) (zA (pv 0) zH))) (fun C s H fp=>⟨(zDa rfl (vJ (zZ (i:=0) (show (["p","q"]:List Str).Nodup by decide +kernel) rfl (Or.inl rfl) (Or.inr rfl)) (vJ (zZ (i:=1) (show (["p","q"]:List Str).Nodup by decide +kernel) rfl (Or.inl rfl) (Or.inr rfl)) zAp))),jU,(pv 0)⟩)) (zC (vL (zN zEx (zW zP (by rfl) T.b_len L2.vY (zA (pv 1) zH)) zG (zS _)) (zI jS) zX) (zI (zT (pv 1))))),?_⟩
 refine⟨_,rfl,_,rfl,by omega,by omega,fun r1 H1 ps1 sm1 _ pa hp1=>?_⟩
 have epp:=Pt.w9 hp1 hp
 subst epp
 obtain⟨as,hl,pr⟩:=pa
 have al:=Paired.length pr
 refine⟨r1,rfl,⟨_,SqL.of hl⟩,?_⟩
 refine wG (K:=K) (xs:=as.map V.ref) (fun i ys H2=>H2=H1∧ys=((ps1.take i).map Prod.fst).map V.int) ⟨rfl,by simp⟩ (fun i ys H2 _ z=>by rw[z.1];exact SqL.of hl)
  (fun i ys H2 hi z=>by rw[List.length_map] at hi;rw[z.2];simp only [List.length_map,List.length_take];exact zAg (by omega)) ?_ ?_
 ·rintro i x ys H2 hx ⟨rfl,rfl⟩
  obtain⟨a,rfl,ea⟩:=zDe hx
  obtain⟨⟨p,z⟩,ep,ha⟩:=v8 pr ea
  refine⟨a,_,rfl,SqT.of ha,rfl,_,_,rfl,_,_,rfl,rfl,?_⟩
  refine⟨_,rfl,rfl,?_⟩
  rw[Pt.take_snoc ep,List.map_append,List.map_append];rfl
 rintro ys H2 ⟨rfl,rfl⟩ D hD
 rw[List.length_map,al,List.take_length]
 have hD1:upd H2 D (.lst ((ps1.map Prod.fst).map V.int)) D=some (.lst ((ps1.map Prod.fst).map V.int)):=zD
 have smD:zR H2 (upd H2 D (.lst ((ps1.map Prod.fst).map V.int))):=zK (zR.refl _) hD
 generalize upd H2 D (.lst ((ps1.map Prod.fst).map V.int))=H3 at hD1 smD ⊢
 refine⟨_,rfl,D,_,rfl,.inl (SqL.of hD1),_,_,rfl,rfl,_,rfl,jQ (fun c=>absurd (dec c) (by rw[List.length_map,List.length_map];omega)) (fun _=>?_)⟩
 exact⟨_,rfl,q D _ (sm1.trans smD) hD1⟩
def spCross (K:PySem.W.Frag)(tT:Addr):Sp:=fun vs H Q _=>∃ (l:Addr)(a:List Int)(n m:Nat)(p q h:Int),vs=[.ref l,.int p,.int q,.int h]∧SqL K H l (a.map V.int)∧a.length=n∧1≤n∧n≤420∧Sk.Two n p q m∧0≤h∧h < m∧LT tT H ∧
 ∀ r H' low,SmP tT H H'→LT tT H'→H r=none→Sk.Low p (q*m) (Ld.at' a) h low→TrAt H' r (Sk.cr p q (q*m) (p*m) (Ld.at' a) h low)→Q (.ref r) H'
theorem zDo (T:Txt K mg t_MOST_HOLES t_LEAD_BITS)(B:Lb K mg base "crossing_rows" cc tT):Df P w K mg base 2 "crossing_rows" ["load","p","other","hole"] (spCross K tT):=by
 have D_ring_holes:=jD (P:=P) (w:=w) (base:=base) T
 refine T.d_crossing_rows.okC B.kb B.nb B.tb zAl (fun vs H Q E h=>?_) (fun f A outer s H vs Q E hr h=>?_)
 ·obtain⟨_,_,_,_,_,_,_,rfl,_⟩:=h;rfl
 obtain⟨l,a,n,m,p,q,h,rfl,hl,la,n1,n2,T2,h0,hm,lt,qq⟩:=h
 have nd:=zAl.nd
 have p2:=T2.p2
 have q2:=T2.q2
 have m0:=T2.m0
 have dp:p∣(n:Int):=⟨q*m,by rw[T2.e,Int.mul_assoc]⟩
 have dq:q∣(n:Int):=⟨p*m,by rw[T2.e,Int.mul_comm p q,Int.mul_assoc]⟩
 obtain⟨st,est,st0,enp,ple⟩:=Rg.w5 n1 p2 dp
 obtain⟨tt,ett,tt0,enq,qle⟩:=Rg.w5 n1 q2 dq
 have es:(st:Int)=q*m:=est.symm.trans T2.s
 have et:(tt:Int)=p*m:=ett.symm.trans T2.t
 have mst:(m:Int)≤st:=by
  have:=Int.mul_le_mul_of_nonneg_right (show 1≤q by omega) (show (0:Int)≤m by omega)
  omega
 have hst:h%(st:Int)=h:=Int.emod_eq_of_lt h0 (by omega)
 refine⟨_,(zC (zM (i:=4) nd rfl (Or.inl rfl) (zQ D_ring_holes (hr.mono (by decide)) (by rfl) (zA (zW zP (by rfl) T.b_len L2.vY (zA (pv 0) zH)) (zA (pv 1) (zA (pv 3) zH))))) (zC (zM (i:=5) nd rfl (Or.inr rfl) (pe_minL ⟨fun _ _ _ _ _ _ _=>rfl,fun _=>rfl,rfl,rfl,rfl,rfl,(by decide),(by decide),(by decide),(by decide),(fun _ _=>rfl)⟩ B.lb rfl rfl hr.depth (by rfl) T.b_min L2.bi_min (j:=0) rfl rfl (pv 4))) (zC (zBa (cap:=[("other",2),("load",0),("low",5)]) (tgs:=["place"]) (i:=6) nd rfl (Or.inl rfl) rfl rfl rfl (by decide +kernel) (by decide +kernel) (wT (by rfl)) (wA rfl (wA rfl (wA rfl wR))) (v6 ⟨rfl,Or.inl rfl,Or.inl rfl,_,rfl⟩ (v6 ⟨rfl,Or.inl rfl,Or.inl rfl,_,rfl⟩ (v6 ⟨rfl,Or.inl rfl,Or.inl rfl,_,rfl⟩ wP))) (vQ (by decide)) (vZ (pv 4)) (fun C s H fp=>⟨(zZ (i:=3) (show (["other","load","low","place"]:List Str).Nodup by decide +kernel) rfl (Or.inl rfl) (Or.inr rfl)),jU,(wI (zA (pv 0) (zA (pv 3) (zA (zO zAs (vA (zDs (K:=K) rfl) (pv 1) (pv 3) (fun _ _=>rfl)) (vA (zDs (K:=K) rfl) (pv 1) (pv 2) (fun _ _=>rfl))) zH))))⟩)) (zC (jK (pe_bm PySem.F.plainAttrs_list PySem.F.slot_list_extend PySem.F.type_list_extend zCe (pv 6) (zA (vP (cap:=[("p",1),("load",0)]) (tgs:=["place"])  rfl rfl rfl (by decide +kernel) (by decide +kernel) (wT (by rfl)) (wA rfl (wA rfl wR)) (v6 ⟨rfl,Or.inl rfl,Or.inl rfl,_,rfl⟩ (v6 ⟨rfl,Or.inl rfl,Or.inl rfl,_,rfl⟩ wP)) (vQ (by decide)) (vZ (zQ D_ring_holes (hr.mono (by decide)) (by rfl) (zA (zW zP (by rfl) T.b_len L2.vY (zA (pv 0) zH)) (zA (pv 2) (zA (pv 5) zH))))) (fun C s H fp=>⟨(zZ (i:=2) (show (["p","load","place"]:List Str).Nodup by decide +kernel) rfl (Or.inl rfl) (Or.inr rfl)),jU,(wI (zA (pv 0) (zA (pv 2) (zA (vA (zDs (K:=K) rfl) (pv 1) (pv 2) (fun _ _=>rfl)) zH))))⟩)) zH))) (zI (zT (pv 6))))))),?_⟩
 refine⟨_,rfl,l,_,rfl,.inl hl,_,rfl,_,rfl,n,p,h,st,by rw[zEw la];rfl,n1,n2,p2,ple,est,st0,enp,fun t ht=>?_⟩
 rw[hst]
 have sm1:zR H (upd H t (.lst ((rg3 h st p.toNat).map V.int))):=zK (zR.refl _) ht
 have ht1:upd H t (.lst ((rg3 h st p.toNat).map V.int)) t=some (.lst ((rg3 h st p.toNat).map V.int)):=zD
 generalize upd H t (.lst ((rg3 h st p.toNat).map V.int))=H1 at sm1 ht1 ⊢
 have inr:∀ k:Nat,(k:Int) < p→0≤h+(k:Int)*st∧h+(k:Int)*st < (n:Int):=fun k hk=>by
  have a1:=Int.mul_le_mul_of_nonneg_right (show (k:Int)≤p-1 by omega) (show (0:Int)≤st by omega)
  have a2:(0:Int)≤(k:Int)*st:=Int.mul_nonneg (by omega) (by omega)
  have a3:(n:Int)=p*st:=by rw[enp,Int.natCast_mul,show ((p.toNat:Nat):Int)=p by omega]
  rw[Int.sub_mul] at a1
  omega
 have mem3:∀ x∈rg3 h st p.toNat,∃ k:Nat,(k:Int) < p∧x=h+(k:Int)*st:=fun x hx=>by
  obtain⟨k,hk,e⟩:=List.mem_map.mp hx
  have:=List.mem_range.mp hk
  exact⟨k,by omega,e.symm⟩
 have len3:(rg3 h st p.toNat).length=p.toNat:=by unfold rg3;rw[List.length_map,List.length_range]
 have lt1:LT tT H1:=lt.same sm1
 refine⟨_,rfl,t,l,rg3 h st p.toNat,a,rfl,SqL.of ht1,by rw[len3];omega,rfl,sm1.seq hl,fun x hx=>?_,lt1,fun low H2 hlow hmin sm2 lt2=>?_⟩
 ·obtain⟨k,hk,rfl⟩:=mem3 x hx
  have:=inr k hk
  rw[la];exact this
 have gat:∀ x:Int,0≤x→x < (n:Int)→a.getD x.toNat 0=Ld.at' a x:=fun x x0 x1=>by
  unfold Ld.at'
  rw[la,Int.emod_eq_of_lt x0 x1]
 obtain⟨k0,k0p,elow⟩:=mem3 low hlow
 have lowr:=inr k0 k0p
 rw[← elow] at lowr
 have LOW:Sk.Low p (q*m) (Ld.at' a) h low:=by
  refine⟨k0,k0p,by rw[elow,es],fun k hk=>?_⟩
  have:=inr k hk
  have mm:=hmin (h+k*st) (List.mem_map.mpr ⟨k,List.mem_range.mpr (by omega),rfl⟩)
  rw[gat _ lowr.1 lowr.2,gat _ this.1 this.2] at mm
  rw[← es];exact mm
 have hl2:SqL K H2 l (a.map V.int):=sm2.seq lt1.tab (sm1.seq hl)
 have ht2:=sm2.lst lt1.tab ht1
 have smA:SmP tT H H2:=(SmP.of sm1).trans sm2
 have alow:atI (a.map V.int) low=some (.int (Ld.at' a low)):=atI_k lowr.1 (by rw[la];exact lowr.2)
 refine⟨_,rfl,t,rfl,⟨_,SqL.of ht2⟩,?_⟩
 refine wG (K:=K) (xs:=(rg3 h st p.toNat).map V.int) (fun i ys H3=>zR H2 H3∧∃ as:List Addr,ys=as.map V.ref∧Paired (fun ad (x:Int×Int×Int)=>H3 ad=some (.tup [.int x.1,.int x.2.1,.int x.2.2])) as ((List.range i).map fun (k:Nat)=>(q,h+(k:Int)*st,Ld.at' a (h+k*st)-Ld.at' a low)))
  ⟨zR.refl _,[],rfl,.nil⟩ (fun i ys H3 _ z=>z.1.seq (SqL.of ht2)) (fun i ys H3 hi z=>by obtain⟨_,as,rfl,pr⟩:=z;have:=Paired.length pr;rw[List.length_map,List.length_range] at this;rw[List.length_map] at hi ⊢;rw[len3] at hi;exact zAg (by omega)) ?_ ?_
 ·rintro i xv ys H3 hx ⟨sm3,as,rfl,pr⟩
  obtain⟨x,rfl,ex⟩:=int_at hx
  have hi:i < p.toNat:=by have:=(List.getElem?_eq_some_iff.mp ex).1;rwa [len3] at this
  have ex':x=h+(i:Int)*st:=by
   unfold rg3 at ex
   rw[List.getElem?_map,List.getElem?_range hi] at ex
   exact (Option.some.inj ex).symm
  subst ex'
  have xr:=inr i (by omega)
  have hl3:=sm3.seq hl2
  refine⟨_,rfl,_,rfl,_,rfl,_,rfl,l,_,_,_,rfl,rfl,hl3,atI_k xr.1 (by rw[la];exact xr.2),_,rfl,_,rfl,l,_,_,_,rfl,rfl,hl3,alow,_,_,rfl,rfl,(by show 3≤sizeLine;decide),fun ad had=>?_⟩
  refine⟨zK sm3 had,as ++ [ad],by rw[List.map_append];rfl,?_⟩
  rw[List.range_succ,List.map_append]
  exact Paired.snoc (Paired.zEp pr fun d x e=>(zL (zJ e had)).trans e) zD
 rintro ys H3 ⟨sm3,as,rfl,pr⟩ D hD
 rw[List.length_map,len3] at pr
 have sm4:zR H2 (upd H3 D (.lst (as.map V.ref))):=zK sm3 hD
 have hD4:upd H3 D (.lst (as.map V.ref)) D=some (.lst (as.map V.ref)):=zD
 have pr4:=Paired.zEp pr fun d x e=>(show upd H3 D (.lst (as.map V.ref)) d=some (.tup [.int x.1,.int x.2.1,.int x.2.2]) from (zL (zJ e hD)).trans e)
 have D0:H D=none:=(smA.same sm3).free (lt2.same sm3).tab hD
 generalize upd H3 D (.lst (as.map V.ref))=H4 at sm4 hD4 pr4 ⊢
 have lt4:LT tT H4:=lt2.same sm4
 have hl4:=sm4.seq hl2
 have t0:=Int.emod_nonneg low (show (tt:Int)≠0 by omega)
 have t1:=Int.emod_lt_of_pos low (show (0:Int) < tt by omega)
 refine⟨_,rfl,.inl ⟨rfl,_,SqL.of hD4⟩,_,rfl,l,_,rfl,.inl hl4,_,rfl,_,rfl,n,q,low,tt,by rw[zEw la];rfl,n1,n2,q2,qle,ett,tt0,enq,fun u hu=>⟨u,rfl,⟨_,SqL.of zD⟩,?_⟩⟩
 have sm5:zR H4 (upd H4 u (.lst ((rg3 (low%tt) tt q.toNat).map V.int))):=zK (zR.refl _) hu
 have hu5:upd H4 u (.lst ((rg3 (low%tt) tt q.toNat).map V.int)) u=some (.lst ((rg3 (low%tt) tt q.toNat).map V.int)):=zD
 generalize upd H4 u (.lst ((rg3 (low%tt) tt q.toNat).map V.int))=H5 at sm5 hu5 ⊢
 have len4:(rg3 (low%tt) tt q.toNat).length=q.toNat:=by unfold rg3;rw[List.length_map,List.length_range]
 have jnr:∀ k:Nat,(k:Int) < q→0≤low%tt+(k:Int)*tt∧low%tt+(k:Int)*tt < (n:Int):=fun k hk=>by
  have a1:=Int.mul_le_mul_of_nonneg_right (show (k:Int)≤q-1 by omega) (show (0:Int)≤tt by omega)
  have a2:(0:Int)≤(k:Int)*tt:=Int.mul_nonneg (by omega) (by omega)
  have a3:(n:Int)=q*tt:=by rw[enq,Int.natCast_mul,show ((q.toNat:Nat):Int)=q by omega]
  rw[Int.sub_mul] at a1
  omega
 refine wG (K:=K) (xs:=(rg3 (low%tt) tt q.toNat).map V.int) (fun i ys H6=>zR H5 H6∧∃ as:List Addr,ys=as.map V.ref∧Paired (fun ad (x:Int×Int×Int)=>H6 ad=some (.tup [.int x.1,.int x.2.1,.int x.2.2])) as ((List.range i).map fun (k:Nat)=>(p,low%tt+(k:Int)*tt,Ld.at' a (low%tt+k*tt))))
  ⟨zR.refl _,[],rfl,.nil⟩ (fun i ys H6 _ z=>z.1.seq (SqL.of hu5)) (fun i ys H6 hi z=>by obtain⟨_,as,rfl,pr⟩:=z;have:=Paired.length pr;rw[List.length_map,List.length_range] at this;rw[List.length_map] at hi ⊢;rw[len4] at hi;exact zAg (by omega)) ?_ ?_
 ·rintro i xv ys H6 hx ⟨sm6,as6,rfl,pr6⟩
  obtain⟨x,rfl,ex⟩:=int_at hx
  have hi:i < q.toNat:=by have:=(List.getElem?_eq_some_iff.mp ex).1;rwa [len4] at this
  have ex':x=low%tt+(i:Int)*tt:=by
   unfold rg3 at ex
   rw[List.getElem?_map,List.getElem?_range hi] at ex
   exact (Option.some.inj ex).symm
  subst ex'
  have xr:=jnr i (by omega)
  have hl6:=(sm5.trans sm6).seq hl4
  refine⟨_,rfl,_,rfl,_,rfl,_,rfl,l,_,_,_,rfl,rfl,hl6,atI_k xr.1 (by rw[la];exact xr.2),(by show 3≤sizeLine;decide),fun ad had=>?_⟩
  refine⟨zK sm6 had,as6 ++ [ad],by rw[List.map_append];rfl,?_⟩
  rw[List.range_succ,List.map_append]
  exact Paired.snoc (Paired.zEp pr6 fun d x e=>(zL (zJ e had)).trans e) zD
 rintro ys H6 ⟨sm6,as6,rfl,pr6⟩ D2 hD2
 rw[List.length_map,len4] at pr6
 have sm7:zR H4 (upd H6 D2 (.lst (as6.map V.ref))):=zK (sm5.trans sm6) hD2
 have hD7:upd H6 D2 (.lst (as6.map V.ref)) D2=some (.lst (as6.map V.ref)):=zD
 have pr7:=Paired.zEp pr6 fun d x e=>(show upd H6 D2 (.lst (as6.map V.ref)) d=some (.tup [.int x.1,.int x.2.1,.int x.2.2]) from (zL (zJ e hD2)).trans e)
 generalize upd H6 D2 (.lst (as6.map V.ref))=H7 at sm7 hD7 pr7 ⊢
 have hDD:=sm7 _ _ hD4
 have l1:=Paired.length pr
 have l2:=Paired.length pr6
 rw[List.length_map,List.length_range] at l1 l2
 refine⟨D,D2,_,_,rfl,rfl,hDD,hD7,by rw[List.length_map,List.length_map,l1,l2];exact size2 (by omega),?_⟩
 refine⟨_,rfl,qq D _ low ((smA.same (sm4.trans sm7)).upd D0) ((lt4.same sm7).upd hDD) D0 LOW ⟨as ++ as6,by rw[zD,List.map_append],?_⟩⟩
 unfold Sk.cr
 rw[← es,← et]
 have nd1:∀ d (x:Int×Int×Int),H7 d=some (.tup [.int x.1,.int x.2.1,.int x.2.2])→upd H7 D (.lst (as.map V.ref ++ as6.map V.ref)) d=some (.tup [.int x.1,.int x.2.1,.int x.2.2]):=fun d x e=>(zL (fun z=>by rw[z,hDD] at e;cases e)).trans e
 exact Paired.appP (Paired.zEp pr4 fun d x e=>nd1 d x (sm7 _ _ e)) (Paired.zEp pr7 fun d x e=>nd1 d x e)
def spLikely (K:PySem.W.Frag)(tT:Addr):Sp:=fun vs H Q _=>∃ (l r:Addr)(a:List Int)(n:Nat)(ps:List (Int×Int)),vs=[.ref l,.ref r]∧SqL K H l (a.map V.int)∧a.length=n∧1≤n∧n≤420∧H r=some (.lst ((ps.map Prod.fst).map V.int))∧Pt.Parts n ps∧ps.length≤2∧LT tT H ∧
 ∀ t H' rows,SmP tT H H'→LT tT H'→H t=none→TrAt H' t rows→rows.length≤420→Sk.zFw n (Ld.at' a) (ps.map Prod.fst) rows→Q (.ref t) H'
theorem zEz (T:Txt K mg t_MOST_HOLES t_LEAD_BITS)(B:Lb K mg base "crossing_rows" cc tT):Df P w K mg base 3 "likely_rows" ["load","primes"] (spLikely K tT):=by
 have D_crossing_rows:=zDo (P:=P) (w:=w) (base:=base) T B
 refine T.d_likely_rows.ok zBk (fun vs H Q E h=>?_) (fun f cdv A outer s H vs Q E hr h=>?_)
 ·obtain⟨_,_,_,_,_,rfl,_⟩:=h;rfl
 obtain⟨l,r,a,n,ps,rfl,hl,la,n1,n2,h1,hp,l2,lt,q⟩:=h
 have nd:=zBk.nd
 have rng:∀ y∈ps,2≤y.1∧y.1≤n∧y.1∣(n:Int):=fun y hy=>by
  have pd:y.1∣(n:Int):=((Pt.vG hp y).mp hy).2.1
  exact⟨(hp.row y hy).pr.1,Int.le_of_dvd (by omega) pd,pd⟩
 refine⟨_,(zC (vL (zN (zEi (hu64 hr)) (pv 1) (wE zH) (zS _)) (zI (zT (wE zH))) zX) (zC (zM (i:=2) nd rfl (Or.inr rfl) (vA vD (pv 1) zG (fun _ _=>rfl))) (zC (vL (zN jR (zW zP (by rfl) T.b_len L2.vY (zA (pv 1) zH)) zG (zS _)) (zI (zT (vP (cap:=[("p",2),("load",0)]) (tgs:=["hole"])  rfl rfl rfl (by decide +kernel) (by decide +kernel) (wT (by rfl)) (wA rfl (wA rfl wR)) (v6 ⟨rfl,Or.inl rfl,Or.inl rfl,_,rfl⟩ (v6 ⟨rfl,Or.inl rfl,Or.inl rfl,_,rfl⟩ wP)) (vQ (by decide)) (jP (by rfl) T.b_range (zA (zO zY (zW zP (by rfl) T.b_len L2.vY (zA (pv 0) zH)) (pv 2)) zH)) (fun C s H fp=>⟨(zZ (i:=2) (show (["p","load","hole"]:List Str).Nodup by decide +kernel) rfl (Or.inl rfl) (Or.inr rfl)),jU,(wI (zA (pv 0) (zA (pv 2) (zA (vA (zDs (K:=K) rfl) (pv 1) (pv 2) (fun _ _=>rfl)) zH))))⟩)))) zX) (zC (zM (i:=3) nd rfl (Or.inl rfl) (wE zH)) (zC (jA PassesOwn.never rfl (jP (by rfl) T.b_range (zA (zO zY (zW zP (by rfl) T.b_len L2.vY (zA (pv 0) zH)) (zO vO (pv 2) (vA vD (pv 1) zG (fun _ _=>rfl)))) zH)) (zZ (i:=4) nd rfl (Or.inl rfl)) (zI (jK (pe_bm PySem.F.plainAttrs_list PySem.F.slot_list_extend PySem.F.type_list_extend zCe (pv 3) (zA (zQ D_crossing_rows (hr.mono (by decide)) (by rfl) (zA (pv 0) (zA (pv 2) (zA (vA vD (pv 1) zG (fun _ _=>rfl)) (zA (pv 4) zH))))) zH))))) (zI (zT (pv 3)))))))),?_⟩
 refine⟨_,rfl,Nat.zero_le _,fun e1 he1=>zFq (ns:=ps.map Prod.fst) (ms:=[]) (SqL.of ((zL (zJ h1 he1)).trans h1)) (SqL.of zD) ⟨_,rfl,?_⟩⟩
 have sm1:zR H (upd H e1 (.lst [])):=zK (zR.refl _) he1
 have h11:=sm1 _ _ h1
 generalize upd H e1 (.lst [])=H1 at sm1 h11 ⊢
 have lt1:LT tT H1:=lt.same sm1
 match ps,l2,hp,rng,h1,h11,q with
 | [],_,hp,rng,h1,h11,q =>
  refine zDp (decide_eq_true rfl) ?_
  refine⟨Nat.zero_le _,fun t ht=>?_⟩
  exact q t _ [] ((SmP.of sm1).same (zK (zR.refl _) ht)) (lt1.same (zK (zR.refl _) ht)) (sm1.free ht) ⟨[],zD,.nil⟩ (by simp) rfl
 | [x],_,hp,rng,h1,h11,q =>
  obtain⟨p2,pn,pd⟩:=rng x (by simp)
  obtain⟨st,est,st0,enp,ple⟩:=Rg.w5 n1 p2 pd
  have stn:(st:Int)≤n:=by rw[← est];exact Int.ediv_le_self _ (by omega)
  refine zBf (by simp) ?_
  have a0:atI (([x].map Prod.fst).map V.int) 0=some (.int x.1):=rfl
  refine⟨_,rfl,r,_,_,_,rfl,rfl,SqL.of h11,a0,?_⟩
  refine⟨_,rfl,r,_,rfl,.inl (SqL.of h11),rfl,_,rfl,zDp (decide_eq_true rfl) ?_⟩
  refine⟨_,rfl,l,_,rfl,.inl (sm1.seq hl),_,rfl,_,_,rfl,rfl,zU (by omega) (by omega),_,rfl,?_⟩
  dsimp only
  rw[zEw la,est]
  refine⟨by omega,by omega,?_⟩
  rw[Int.toNat_natCast]
  refine zDy (fun i ys H2=>zR H1 H2∧∃ as:List Addr,ys=as.map V.ref∧Paired (fun ad (x:Int×Int×Int)=>H2 ad=some (.tup [.int x.1,.int x.2.1,.int x.2.2])) as ((List.range i).map fun (h:Nat)=>(x.1,(h:Int),Ld.at' a h)))
   ⟨zR.refl _,[],rfl,.nil⟩ (fun i ys H2 hi z=>by obtain⟨_,as,rfl,pr⟩:=z;have:=Paired.length pr;rw[List.length_map,List.length_range] at this;rw[List.length_map];exact zAg (by omega)) ?_ ?_
  ·rintro i ys H2 hi ⟨sm2,as,rfl,pr⟩
   refine⟨_,rfl,_,rfl,_,rfl,_,rfl,l,_,_,_,rfl,rfl,(sm1.trans sm2).seq hl,atI_k (by omega) (by omega),(by show 3≤sizeLine;decide),fun ad had=>?_⟩
   refine⟨zK sm2 had,as ++ [ad],by rw[List.map_append];rfl,?_⟩
   rw[List.range_succ,List.map_append]
   exact Paired.snoc (Paired.zEp pr fun d x e=>(zL (zJ e had)).trans e) zD
  ·rintro ys H2 ⟨sm2,as,rfl,pr⟩ D hD
   refine q D _ _ ((SmP.of (sm1.trans sm2)).same (zK (zR.refl _) hD)) ((lt1.same sm2).same (zK (zR.refl _) hD)) ((sm1.trans sm2).free hD) ⟨as,zD,Paired.zEp pr fun d x e=>(zL (zJ e hD)).trans e⟩ (by rw[List.length_map,List.length_range];omega) ?_
   show _=_
   rw[est,Int.toNat_natCast]
 | [x,y],_,hp,rng,h1,h11,q =>
  obtain⟨p2,pn,pd⟩:=rng x (by simp)
  obtain⟨q2,qn,qd⟩:=rng y (by simp)
  obtain⟨m,T2,em⟩:=Sk.zFn n1 hp rfl
  have ltxy:x.1 < y.1:=(List.pairwise_cons.mp hp.srt).1 y (by simp)
  have few:=T2.few (by omega)
  have m0:=T2.m0
  have pq1:1≤x.1*y.1:=Int.mul_pos (by omega) (by omega)
  have pqn:x.1*y.1≤n:=by
   have:=Int.mul_le_mul_of_nonneg_left (show (1:Int)≤m by omega) (show 0≤x.1*y.1 by omega)
   rw[T2.e];omega
  have mn:(m:Int)≤n:=by
   have:=Int.mul_le_mul_of_nonneg_right pq1 (show (0:Int)≤m by omega)
   rw[T2.e];omega
  refine zBf (by simp) ?_
  have a0:atI (([x,y].map Prod.fst).map V.int) 0=some (.int x.1):=rfl
  have a1:atI (([x,y].map Prod.fst).map V.int) 1=some (.int y.1):=rfl
  refine⟨_,rfl,r,_,_,_,rfl,rfl,SqL.of h11,a0,?_⟩
  refine⟨_,rfl,r,_,rfl,.inl (SqL.of h11),rfl,_,rfl,zBf (by simp) ?_⟩
  refine⟨Nat.zero_le _,fun ro hro=>?_⟩
  have sm2:zR H1 (upd H1 ro (.lst [])):=zK (zR.refl _) hro
  have hr2:upd H1 ro (.lst []) ro=some (.lst []):=zD
  generalize upd H1 ro (.lst [])=H2 at sm2 hr2 ⊢
  have ro0:H ro=none:=sm1.free hro
  have lt2:LT tT H2:=lt1.same sm2
  have h12:=sm2 _ _ h11
  refine⟨_,rfl,l,_,rfl,.inl ((sm1.trans sm2).seq hl),_,rfl,_,rfl,r,_,_,_,rfl,rfl,SqL.of h12,a1,_,_,rfl,rfl,vF (by omega) (by omega),_,_,rfl,rfl,zU (by omega) (by omega),m,?_,by omega,by omega,?_⟩
  ·show [V.int (((a.map V.int).length:Int)/(x.1*y.1))]=[V.int m]
   rw[zEw la,em]
  rw[Int.toNat_natCast]
  refine jF (fun i σ H4=>SmP tT H H4∧LT tT H4∧H4 r=some (.lst (([x,y].map Prod.fst).map V.int))∧∃ (rows:List (Int×Int×Int))(o1:Option V),σ=[some (.ref l),some (.ref r),some (.int x.1),some (.ref ro),o1]∧TrAt H4 ro rows∧Sk.Built x.1 y.1 (y.1*m) (x.1*m) (Ld.at' a) i rows)
   ⟨(SmP.of (sm1.trans sm2)),lt2,h12,[],none,rfl,⟨[],hr2,.nil⟩,.zero⟩ ?_ ?_
  ·rintro i σ H4 hi ⟨smp,lt4,h14,rows,o1,rfl,⟨rs,hrs,prs⟩,bu⟩
   have bl:=bu.len (by omega) (by omega)
   have il:(i:Int)*(x.1+y.1)≤m*(x.1+y.1):=Int.mul_le_mul_of_nonneg_right (by omega) (by omega)
   have rl:=Paired.length prs
   refine⟨_,rfl,.inl ⟨rfl,_,SqL.of hrs⟩,_,rfl,_,rfl,_,rfl,r,_,_,_,rfl,rfl,SqL.of h14,a1,_,rfl,l,a,n,m,x.1,y.1,i,rfl,smp.seq lt.tab hl,la,n1,n2,T2,by omega,by omega,lt4,fun r5 H5 low sm5 lt5 f5 lo ⟨bs,hbs,pbs⟩=>?_⟩
   have nr:ro≠r5:=zJ hrs f5
   have hr5:=sm5.lst lt4.tab hrs
   have bl5:=Paired.length pbs
   have cl:(Sk.cr x.1 y.1 (y.1*m) (x.1*m) (Ld.at' a) i low).length=x.1.toNat+y.1.toNat:=by unfold Sk.cr;rw[List.length_append,List.length_map,List.length_map,List.length_range,List.length_range]
   refine⟨ro,r5,_,_,rfl,rfl,hr5,hbs,by rw[List.length_map,List.length_map,rl,bl5,cl];exact size2 (by omega),?_⟩
   refine⟨(smp.trans sm5).upd ro0,lt5.upd hr5,?_,rows ++ Sk.cr x.1 y.1 (y.1*m) (x.1*m) (Ld.at' a) i low,_,rfl,⟨rs ++ bs,by rw[zD,List.map_append],?_⟩,.succ bu lo⟩
   ·rw[zL (fun z=>by rw[z,ro0] at h1;cases h1)];exact sm5.lst lt4.tab h14
   ·have k1:∀ d (x:Int×Int×Int),H5 d=some (.tup [.int x.1,.int x.2.1,.int x.2.2])→upd H5 ro (.lst (rs.map V.ref ++ bs.map V.ref)) d=some (.tup [.int x.1,.int x.2.1,.int x.2.2]):=fun d x e=>(zL (fun z=>by rw[z,hr5] at e;cases e)).trans e
    refine Paired.appP (Paired.zEp prs fun d x e=>k1 d x (sm5 _ _ (fun z=>?_) e)) (Paired.zEp pbs fun d x e=>k1 d x e)
    obtain⟨pt,tt⟩:=lt4.tab
    rw[z,tt] at e;cases e
  ·rintro σ H4 ⟨smp,lt4,h14,rows,o1,rfl,tr,bu⟩
   have bl:=bu.len (by omega) (by omega)
   exact⟨_,rfl,q ro H4 rows smp lt4 ro0 tr (by omega) ⟨m,T2,bu⟩⟩
def spStacked (K:PySem.W.Frag)(tT:Addr):Sp:=fun vs H Q _=>∃ (l:Addr)(a:List Int)(n:Nat)(ps:List (Int×Int)),vs=[.ref l]∧SqL K H l (a.map V.int)∧a.length=n∧1≤n∧n≤420∧Pt.Parts n ps∧ps.length≤2∧LT tT H ∧
 (((∃ x∈a,x < 0)∨¬ Sk.Ev n (ps.map Prod.fst) (Ld.at' a))→∀ H',SmP tT H H'→LT tT H'→Q .non H') ∧
 ((∀ x∈a,0≤x)→Sk.Ev n (ps.map Prod.fst) (Ld.at' a)→∀ t H' rows,SmP tT H H'→LT tT H'→H t=none→TrAt H' t rows→rows.length≤420→(∀ r∈rows,r.1∈ps.map Prod.fst∧0≤r.2.1∧r.2.1 < n∧1≤r.2.2)→(rows.map fun t=>(t.1,t.2.1)).Nodup→(∀ x,Rg.rvs n rows x=Ld.at' a x)→Q (.ref t) H')
theorem ok_stacked (T:Txt K mg t_MOST_HOLES t_LEAD_BITS)(B:Lb K mg base "crossing_rows" cc tT):Df P w K mg base 4 "stacked" ["load"] (spStacked K tT):=by
 have D_few_primes:=jC (P:=P) (w:=w) (base:=base) T
 have D_likely_rows:=zEz (P:=P) (w:=w) (base:=base) T B
 have D_laid:=ok_laid (P:=P) (w:=w) (base:=base) T
 refine T.d_stacked.ok zFh (fun vs H Q E h=>?_) (fun f cdv A outer s H vs Q E hr h=>?_)
 ·obtain⟨_,_,_,_,rfl,_⟩:=h;rfl
 obtain⟨l,a,n,ps,rfl,hl,la,n1,n2,hp,l2,lt,qn,qr⟩:=h
 have nd:=zFh.nd
 have len2:(ps.map Prod.fst).length≤2:=by rw[List.length_map];exact l2
 have rng:∀ p∈ps.map Prod.fst,2≤p∧p∣(n:Int):=fun p hp'=>by
  obtain⟨y,hy,rfl⟩:=List.mem_map.mp hp'
  exact⟨(hp.row y hy).pr.1,((Pt.vG hp y).mp hy).2.1⟩
 have ndp:(ps.map Prod.fst).Nodup:=by
  have:=hp.srt
  exact List.Pairwise.map Prod.fst (fun x y h=>by omega) this
 refine⟨_,(zC (zM (i:=1) nd rfl (Or.inl rfl) (zW zP (by rfl) T.b_len L2.vY (zA (pv 0) zH))) (zC (zM (i:=2) nd rfl (Or.inl rfl) (zQ D_few_primes (hr.mono (by decide)) (by rfl) (zA (pv 1) zH))) (zC (vL (zN zEs (zW (call_minL rfl) (by rfl) T.b_min L2.bi_min (zA (pv 0) zH)) zG (zS _)) (zI (zT jL)) zX) (zC (zBa (cap:=[]) (tgs:=["row"]) (i:=3) nd rfl (Or.inl rfl) rfl rfl rfl (by decide +kernel) (by decide +kernel) (wT (by rfl)) wR wP (vQ (by decide)) (vZ (zQ D_likely_rows (hr.mono (by decide)) (by rfl) (zA (pv 0) (zA (pv 2) zH)))) (fun C s H fp=>⟨(zZ (i:=0) (show (["row"]:List Str).Nodup by decide +kernel) rfl (Or.inl rfl) (Or.inr rfl)),(pts_one (zN zEy (vA (ix_tupK (K:=K) rfl) (pv 0) zG (fun _ _=>rfl)) zG (zS _))),(pv 0)⟩)) (zC (vL (zN (zEi (hu64 hr)) (zQ D_laid (hr.mono (by decide)) (by rfl) (zA (pv 1) (zA (pv 3) zH))) (pv 0) (zS _)) (zI (zT (pv 3))) zX) (zI (zT jL))))))),?_⟩
 refine⟨_,rfl,l,_,rfl,.inl hl,?_⟩
 rw[zEw la]
 refine⟨_,rfl,n,ps,rfl,n1,n2,hp,l2,fun r1 H1 sm1 h1=>?_⟩
 refine⟨_,rfl,l,a,rfl,sm1.seq hl,by omega,fun mn hmn hle=>⟨_,_,rfl,rfl,_,rfl,jQ (fun c=>?_) (fun c=>?_)⟩⟩
 ·exact qn (.inl ⟨mn,hmn,dec c⟩) _ (.of sm1) (lt.same sm1)
 have nn:∀ x∈a,0≤x:=fun x hx=>by have:=hle x hx;have:=ndec c;omega
 have nna:∀ x,0≤Ld.at' a x:=fun x=>nn _ (Ld.at_mem (by omega) x)
 have lt1:LT tT H1:=lt.same sm1
 refine⟨_,rfl,_,rfl,l,r1,a,n,ps,rfl,sm1.seq hl,la,n1,n2,h1,hp,l2,lt1,fun t2 H2 rows sm2 lt2 f2 tr2 rl2 lik=>⟨t2,rfl,?_⟩⟩
 obtain⟨rs,hrs,prs⟩:=id tr2
 have rl:=Paired.length prs
 have lok:=lik.ok n1 len2 rng ndp nna
 refine⟨⟨_,SqL.of hrs⟩,?_⟩
 refine wG (K:=K) (xs:=rs.map V.ref) (fun i ys H3=>H3=H2∧∃ as:List Addr,ys=as.map V.ref∧Paired (fun ad (x:Int×Int×Int)=>H2 ad=some (.tup [.int x.1,.int x.2.1,.int x.2.2])) as ((rows.take i).filter fun r=>!decide (r.2.2=0)))
  ⟨rfl,[],rfl,.nil⟩ (fun i ys H3 _ z=>by rw[z.1];exact SqL.of hrs) (fun i ys H3 hi z=>by obtain⟨_,as,rfl,pr⟩:=z;have e1:=Paired.length pr;have e2:=List.length_filter_le (fun r:Int×Int×Int=>!decide (r.2.2=0)) (rows.take i);rw[List.length_take] at e2;rw[List.length_map];exact zAg (by omega)) ?_ ?_
 ·rintro i xv ys H3 hx ⟨rfl,as,rfl,pr⟩
  obtain⟨ad,rfl,ea⟩:=zDe hx
  obtain⟨⟨p,hole,many⟩,ep,ha⟩:=v8 prs ea
  have i2:atI [V.int p,V.int hole,V.int many] 2=some (.int many):=rfl
  refine⟨_,rfl,ad,_,_,_,rfl,rfl,SqT.of ha,i2,rfl,_,rfl,jQ (fun c=>?_) (fun c=>?_)⟩
  ·have nz:=vne c
   refine⟨_,rfl,rfl,as ++ [ad],by rw[List.map_append];rfl,?_⟩
   rw[Pt.take_snoc ep,List.filter_append]
   have e1:[(p,hole,many)].filter (fun r=>!decide (r.2.2=0))=[(p,hole,many)]:=by simp [nz]
   rw[e1]
   exact Paired.snoc pr ha
  ·have z:=nvne c
   refine⟨rfl,as,rfl,?_⟩
   rw[Pt.take_snoc ep,List.filter_append]
   have e1:[(p,hole,many)].filter (fun r=>!decide (r.2.2=0))=[]:=by simp [z]
   rw[e1,List.append_nil]
   exact pr
 rintro ys H3 ⟨rfl,as,rfl,pr⟩ D hD
 rw[List.length_map,rl,List.take_length] at pr
 have sm4:zR H3 (upd H3 D (.lst (as.map V.ref))):=zK (zR.refl _) hD
 have tr4:TrAt (upd H3 D (.lst (as.map V.ref))) D (rows.filter fun r=>!decide (r.2.2=0)):=⟨as,zD,Paired.zEp pr fun d x e=>(zL (zJ e hD)).trans e⟩
 generalize upd H3 D (.lst (as.map V.ref))=H4 at sm4 tr4 ⊢
 have smA:SmP tT H H4:=(SmP.of sm1).trans (sm2.same sm4)
 have lt4:LT tT H4:=lt2.same sm4
 have D0:H D=none:=((SmP.of sm1).trans sm2).free lt2.tab hD
 have fok:∀ r∈rows.filter (fun r=>!decide (r.2.2=0)),r.1∈ps.map Prod.fst∧0≤r.2.1∧r.2.1 < n∧1≤r.2.2:=fun r hr=>by
  obtain⟨m1,m2⟩:=List.mem_filter.mp hr
  obtain⟨o1,o2,o3,o4⟩:=lok.1 r m1
  have:r.2.2≠0:=by simpa using m2
  exact⟨o1,o2,o3,by omega⟩
 refine⟨_,rfl,_,rfl,n,D,rows.filter (fun r=>!decide (r.2.2=0)),ps,rfl,n1,n2,tr4,hp,fun x hx=>(fok x hx).1,fun t5 H5 b sm5 f5 h5 lb bv=>?_⟩
 have bv2:∀ x,Ld.at' b x=Rg.rvs n rows x:=fun x=>by rw[bv,Sk.zDv]
 refine⟨_,rfl,zFq (SqL.of h5) ((smA.same sm5).seq lt.tab hl) ⟨_,rfl,?_⟩⟩
 by_cases ev:Sk.Ev n (ps.map Prod.fst) (Ld.at' a)
 ·have val:=lik.val n1 len2 rng (Ld.vM la) ev
  have e:b=a:=Ld.ext (lb.trans la.symm) fun k _=>by rw[bv2,val]
  refine zDp (decide_eq_true e) ?_
  refine⟨_,rfl,qr nn ev D H5 _ (smA.same sm5) (lt4.same sm5) D0 (tr4.same sm5) ?_ fok ?_ fun x=>by rw[Sk.zDv,val]⟩
  ·exact Nat.le_trans (List.length_filter_le _ _) rl2
  ·exact lok.2.1.sublist (List.Sublist.map _ List.filter_sublist)
 ·refine zBf (fun z=>?_) (qn (.inr ev) _ (smA.same sm5) (lt4.same sm5))
  have e:b=a:=of_decide_eq_true z
  refine ev (Sk.Ev.congr (fun x=>?_) (Sk.Ev.rvs (n:=n) len2 (rows:=rows) fun r hr=>(lok.1 r hr).1))
  rw[← bv2,e]
def PL2 (pl:List Int):Prop:=pl.length≤2∧∀ p∈pl,2≤p∧p≤420
theorem pl2 {pl:List Int}(h:PL2 pl):pl=[]∨(∃ p,pl=[p])∨∃ p r,pl=[p,r]:=by
 match pl,h.1 with
 | [],_=>exact .inl rfl
 | [p],_=>exact .inr (.inl ⟨p,rfl⟩)
 | [p,r],_=>exact .inr (.inr ⟨p,r,rfl⟩)
 | _::_::_::_,h=>exact absurd h (by simp)
def Rd (ps:List (Int×Int))(cs:List Int):Prop:=∀ x y:Int×Int,ps=[x,y]→∀ a b:Int,cs=[a,b]→b < x.1
def spPS:Sp:=fun vs H Q _=>∃ (n:Nat)(many:Int)(ps:List (Int×Int)),vs=[.int n,.int many]∧1≤n∧n≤420∧Pt.Parts n ps∧ps.length≤2 ∧
 (¬ Ps.Can (ps.map Prod.fst) many→∀ H',zR H H'→Q .non H')∧(Ps.Can (ps.map Prod.fst) many→∀ t H' cs,zR H H'→H' t=some (.lst (cs.map V.int))→cs.length=ps.length→(∀ c∈cs,0≤c)→Ps.dot cs (ps.map Prod.fst)=many→Rd ps cs→Q (.ref t) H')
def spOne:Sp:=fun vs H Q _=>∃ (r:Addr)(pl:List Int)(many:Int),vs=[.ref r,.int many]∧H r=some (.lst (pl.map V.int))∧PL2 pl∧pl.length < 2 ∧
 (¬ Ps.Can pl many→∀ H',zR H H'→Q .non H')∧(Ps.Can pl many→∀ t H' cs,zR H H'→H' t=some (.lst (cs.map V.int))→cs.length=pl.length→(∀ c∈cs,0≤c)→Ps.dot cs pl=many→Q (.ref t) H')
theorem zDn (T:Txt K mg t_MOST_HOLES t_LEAD_BITS):Df P w K mg base 1 "one_prime_sum" ["primes","many"] spOne:=by
 refine T.d_one_prime_sum.ok zAm (fun vs H Q E h=>?_) (fun f cdv A outer s H vs Q E hr h=>?_)
 ·obtain⟨_,_,_,rfl,_⟩:=h;rfl
 obtain⟨r,pl,many,rfl,hl,pk,l2,qn,qc⟩:=h
 have nd:=zAm.nd
 refine⟨_,(zC (vL (zN jR (pv 1) zG (zS _)) (zI (zT (vP (cap:=[]) (tgs:=["p"])  rfl rfl rfl (by decide +kernel) (by decide +kernel) (wT (by rfl)) wR wP (vQ (by decide)) (vZ (pv 0)) (fun C s H fp=>⟨(zZ (i:=0) (show (["p"]:List Str).Nodup by decide +kernel) rfl (Or.inl rfl) (Or.inr rfl)),jU,zG⟩)))) zX) (zC (vL (PW.pt (zCp (zN (zEi (hu64 hr)) (pv 0) (wE zH) (zS _)) (zCp (zN zEs (pv 1) zG (zS _)) (zCv (zN zEy (zO vK (pv 1) (vA vD (pv 0) zG (fun _ _=>rfl))) zG (zS _)))))) (zI (zT jL)) zX) (zI (zT (wE (zA (zO zY (pv 1) (vA vD (pv 0) zG (fun _ _=>rfl))) zH)))))),?_⟩
 refine⟨_,rfl,rfl,_,rfl,jQ (fun c=>?_) (fun c=>?_)⟩
 ·have m0:=vint c
  refine⟨_,rfl,r,rfl,⟨_,SqL.of hl⟩,?_⟩
  refine wG (K:=K) (xs:=pl.map V.int) (fun i ys H2=>H2=H∧ys=(List.replicate i (0:Int)).map V.int) ⟨rfl,rfl⟩ (fun i ys H2 _ z=>by rw[z.1];exact SqL.of hl)
   (fun i ys H2 hi z=>by rw[List.length_map] at hi;rw[z.2,List.length_map,List.length_replicate];exact zAg (by omega)) ?_ ?_
  ·rintro i x ys H2 hx ⟨rfl,rfl⟩
   obtain⟨u,rfl,hu⟩:=int_at hx
   refine⟨rfl,?_⟩
   rw[List.replicate_succ',List.map_append];rfl
  ·rintro ys H2 ⟨rfl,rfl⟩ D hD
   have z0:∀ l:List Int,Ps.dot (List.replicate l.length 0) l=0:=by
    intro l
    induction l with
    | nil=>rfl
    | cons a t ih=>show 0*a+Ps.dot (List.replicate t.length 0) t=0;rw[ih,Int.zero_mul];rfl
   rw[List.length_map]
   have cn:Ps.Can pl many:=⟨List.replicate pl.length 0,by simp,fun c hc=>by rw[(List.mem_replicate.mp hc).2];exact Int.le_refl _,by rw[m0];exact z0 pl⟩
   exact qc cn D _ (List.replicate pl.length 0) (zK (zR.refl _) hD) zD (by simp) (fun c hc=>by rw[(List.mem_replicate.mp hc).2];exact Int.le_refl _) (by rw[m0];exact z0 pl)
 have nz:=zDj c
 have e0:∀ {Q':VK},(∀ e1,H e1=none→Q' (.bl (decide (pl=[]))) (upd H e1 (.lst [])))→∀ e1,H e1=none→rEqD K (.ref r) (.ref e1) (upd H e1 (.lst [])) Q':=fun h e1 he1=>zFq (ns:=pl) (ms:=[]) (SqL.of ((zL (zJ hl he1)).trans hl)) (SqL.of zD) (h e1 he1)
 refine⟨_,rfl,Nat.zero_le _,e0 fun e1 he1=>⟨_,rfl,?_⟩⟩
 have sm1:zR H (upd H e1 (.lst [])):=zK (zR.refl _) he1
 have hl1:=sm1 _ _ hl
 generalize upd H e1 (.lst [])=H1 at sm1 hl1 ⊢
 rcases pl2 pk with e | ⟨p,e⟩ | ⟨p,r',e⟩
 ·subst e
  refine zDp (decide_eq_true rfl) ?_
  exact qn (fun z=>nz (Ps.can0.mp z)) _ sm1
 ·subst e
  have p2:=pk.2 p (by simp)
  refine zBf (by simp) ?_
  refine⟨_,rfl,_,_,rfl,rfl,_,rfl,jQ (fun c1=>?_) (fun c1=>?_)⟩
  ·exact qn (fun z=>by have:=((Ps.can1 p2.1).mp z).1;have:=dec c1;omega) _ sm1
  have m0:=ndec c1
  have a0:atI ([p].map V.int) 0=some (.int p):=rfl
  refine⟨_,rfl,_,rfl,r,_,_,_,rfl,rfl,SqL.of hl1,a0,_,_,rfl,rfl,(show 0 < p by omega),rfl,_,rfl,jQ (fun c2=>?_) (fun c2=>?_)⟩
  ·exact qn (fun z=>vne c2 ((Ps.can1 p2.1).mp z).2) _ sm1
  ·have d0:=nvne c2
   refine⟨_,rfl,_,rfl,r,_,_,_,rfl,rfl,SqL.of hl1,a0,_,_,rfl,rfl,zU (by omega) (by omega),(by show 1≤sizeLine;decide),fun t ht=>?_⟩
   exact qc ((Ps.can1 p2.1).mpr ⟨by omega,d0⟩) t _ [many/p] (zK sm1 ht) zD rfl (fun c hc=>by rw[List.mem_singleton.mp hc];exact Int.ediv_nonneg (by omega) (by omega)) (by
    show many/p*p+0=many
    rw[Int.add_zero];exact Int.ediv_mul_cancel (Int.dvd_of_emod_eq_zero d0))
 ·subst e;exact absurd l2 (by simp)
theorem ok_prime_sum (T:Txt K mg t_MOST_HOLES t_LEAD_BITS):Df P w K mg base 4 "prime_sum" ["n","many"] spPS:=by
 have D_few_primes:=jC (P:=P) (w:=w) (base:=base) T
 have D_one_prime_sum:=zDn (P:=P) (w:=w) (base:=base) T
 have D_back:=ok_back (P:=P) (w:=w) (base:=base) T
 refine T.d_prime_sum.ok zDh (fun vs H Q E h=>?_) (fun f cdv A outer s H vs Q E hr h=>?_)
 ·obtain⟨_,_,_,rfl,_⟩:=h;rfl
 obtain⟨n,many,ps,rfl,n1,n2,hp,l2,qn,qc⟩:=h
 have nd:=zDh.nd
 have pk:PL2 (ps.map Prod.fst):=⟨by rw[List.length_map];exact l2,fun p hp'=>by
  obtain⟨x,hx,ex⟩:=List.mem_map.mp hp'
  have a:=Pt.zBn (hp.row _ hx)
  have b:=Pt.le_Prd ps hp.row _ hx
  rw[hp.prd] at b
  rw[← ex];omega⟩
 refine⟨_,(zC (zM (i:=2) nd rfl (Or.inl rfl) (zQ D_few_primes (hr.mono (by decide)) (by rfl) (zA (pv 0) zH))) (zC (vL (zN zEs (zW zP (by rfl) T.b_len L2.vY (zA (pv 2) zH)) zG (zS _)) (zI (zT (zQ D_one_prime_sum (hr.mono (by decide)) (by rfl) (zA (pv 2) (zA (pv 1) zH))))) zX) (zC (zM (i:=3) nd rfl (Or.inl rfl) (vA vD (pv 2) zG (fun _ _=>rfl))) (zC (zM (i:=4) nd rfl (Or.inl rfl) (vA vD (pv 2) zG (fun _ _=>rfl))) (zC (zM (i:=5) nd rfl (Or.inl rfl) (zO vK (zO vO (pv 1) (zQ D_back (hr.mono (by decide)) (by rfl) (zA (pv 4) (zA (pv 3) zH)))) (pv 3))) (zC (zM (i:=6) nd rfl (Or.inl rfl) (zO zAs (pv 1) (zO vO (pv 5) (pv 4)))) (zC (vL (zN zEs (pv 6) zG (zS _)) (zI (zT jL)) zX) (zI (zT (wE (zA (zO zY (pv 6) (pv 3)) (zA (pv 5) zH)))))))))))),?_⟩
 refine⟨_,rfl,n,ps,rfl,n1,n2,hp,l2,fun r H1 sm1 h1=>?_⟩
 have ml:((ps.map Prod.fst).map V.int).length=ps.length:=by rw[List.length_map,List.length_map]
 refine⟨_,rfl,r,_,rfl,.inl (SqL.of h1),_,_,rfl,rfl,_,rfl,jQ (fun c=>?_) (fun c=>?_)⟩
 ·have lt:=dec c
  rw[ml] at lt
  refine⟨_,rfl,_,rfl,r,ps.map Prod.fst,many,rfl,h1,pk,by rw[List.length_map];omega,fun nc H2 sm2=>qn nc _ (sm1.trans sm2),fun cn t H2 cs sm2 h2 lc c0 dt=>qc cn t H2 cs (sm1.trans sm2) h2 (by rw[lc,List.length_map]) c0 dt (fun x y e _ _ _=>by rw[e] at lt;exact absurd lt (by simp))⟩
 have len2:ps.length=2:=by have:=ndec c;rw[ml] at this;omega
 match ps,len2 with
 | [x,y],_ =>
  have px:=pk.2 x.1 (by simp)
  have py:=pk.2 y.1 (by simp)
  have lt:x.1 < y.1:=(List.pairwise_cons.mp hp.srt).1 y (by simp)
  have a0:atI (([x,y].map Prod.fst).map V.int) 0=some (.int x.1):=rfl
  have a1:atI (([x,y].map Prod.fst).map V.int) 1=some (.int y.1):=rfl
  have g1:=Ps.G_pr (hp.row x (by simp)).pr (hp.row y (by simp)).pr (by omega)
  refine⟨_,rfl,r,_,_,_,rfl,rfl,SqL.of h1,a0,?_⟩
  refine⟨_,rfl,r,_,_,_,rfl,rfl,SqL.of h1,a1,?_⟩
  refine⟨_,rfl,_,rfl,_,rfl,y.1,x.1,rfl,by omega,by omega,g1,fun u H2 u1 u2 hu sm2=>?_⟩
  have cl:=Ps.can_left (many:=many) px.1 py.1 hu
  have c0:=Int.emod_nonneg (many*u) (show x.1≠0 by omega)
  have c1:=Int.emod_lt_of_pos (many*u) (show 0 < x.1 by omega)
  refine⟨_,_,rfl,rfl,IntMulOk.of_right (intBits_le_64 (by omega) (by omega)),_,rfl,_,_,rfl,rfl,(show 0 < x.1 by omega),?_⟩
  refine⟨_,rfl,_,rfl,_,rfl,_,_,rfl,rfl,vF (by omega) (by omega),_,_,rfl,rfl,?_⟩
  refine⟨_,rfl,_,_,rfl,rfl,_,rfl,jQ (fun c2=>?_) (fun c2=>?_)⟩
  ·exact qn (fun z=>by have:=cl.2.mpr z;have:=dec c2;omega) _ (sm1.trans sm2)
  ·have l0:=ndec c2
   refine⟨_,rfl,_,rfl,_,_,rfl,rfl,zU (by omega) (by omega),_,rfl,(by show 2≤sizeLine;decide),fun t ht=>?_⟩
   refine qc (cl.2.mp (by omega)) t _ [(many-many*u%x.1*y.1)/x.1,many*u%x.1] (zK (sm1.trans sm2) ht) zD rfl (fun c hc=>?_) ?_ (fun x' y' e a b e2=>by cases e;cases e2;exact c1)
   ·rcases List.mem_cons.mp hc with w | w
    ·rw[w];exact Int.ediv_nonneg (by omega) (by omega)
    ·rw[List.mem_singleton.mp w];exact c0
   ·show (many-many*u%x.1*y.1)/x.1*x.1+(many*u%x.1*y.1+0)=many
    rw[Int.ediv_mul_cancel (Int.dvd_of_emod_eq_zero cl.1)];omega
def spCL:Sp:=fun vs H Q _=>∃ (n m:Nat)(p q:Int),vs=[.int n,.int p,.int q]∧1≤n∧n≤420∧Sk.Two n p q m∧(n:Int)/(p*q)=m∧∀ t H',zR H H'→H' t=some (.lst (((List.range (m*q.toNat)).map (Se.F q.toNat (p*m))).map V.int))→Q (.ref t) H'
theorem rg3_map (lo st:Int)(k:Nat):rg3 lo st k=(List.range k).map fun (i:Nat)=>lo+(i:Int)*st:=rfl
theorem zFb {n m:Nat}{p q:Int}(n2:n≤420)(T2:Sk.Two n p q m):p*q≤n∧(m:Int)*q≤n∧(m:Int)*p≤n∧p≤n∧q≤n∧(m:Int)≤n∧p*q*1≤n∧0 < p*q:=by
 have p2:=T2.p2
 have q2:=T2.q2
 have m0:=T2.m0
 have e:=T2.e
 have a1:0 < p*q:=Int.mul_pos (by omega) (by omega)
 have a2:0 < q*m:=Int.mul_pos (by omega) (by omega)
 have a3:0 < p*m:=Int.mul_pos (by omega) (by omega)
 have b1:=Int.mul_le_mul_of_nonneg_left (show (1:Int)≤m by omega) (show 0≤p*q by omega)
 have b2:=Int.mul_le_mul_of_nonneg_left (show (1:Int)≤p by omega) (show 0≤q*m by omega)
 have b3:=Int.mul_le_mul_of_nonneg_left (show (1:Int)≤q by omega) (show 0≤p*m by omega)
 have b4:=Int.mul_le_mul_of_nonneg_left (show (1:Int)≤q by omega) (show 0≤p by omega)
 have b5:=Int.mul_le_mul_of_nonneg_left (show (1:Int)≤p by omega) (show 0≤q by omega)
 have b6:=Int.mul_le_mul_of_nonneg_left (show (1:Int)≤p by omega) (show (0:Int)≤m by omega)
 have e2:(n:Int)=q*m*p:=by rw[e];grind
 have e3:(n:Int)=p*m*q:=by rw[e];grind
 have e4:q*p=p*q:=Int.mul_comm _ _
 have e5:(m:Int)*q=q*m:=Int.mul_comm _ _
 have e6:(m:Int)*p=p*m:=Int.mul_comm _ _
 refine⟨?_,?_,?_,?_,?_,?_,?_,a1⟩ <;> omega
theorem zDk (T:Txt K mg t_MOST_HOLES t_LEAD_BITS):Df P w K mg base 2 "crossing_last" ["n","small","great"] spCL:=by
 have D_ring_holes:=jD (P:=P) (w:=w) (base:=base) T
 refine T.d_crossing_last.ok zAk (fun vs H Q E h=>?_) (fun f cdv A outer s H vs Q E hr h=>?_)
 ·obtain⟨_,_,_,_,rfl,_⟩:=h;rfl
 obtain⟨n,m,p,q,rfl,n1,n2,T2,em,qq⟩:=h
 have nd:=zAk.nd
 have p2:=T2.p2
 have q2:=T2.q2
 have m0:=T2.m0
 obtain⟨b1,b2,b3,b4,b5,b6,_,b8⟩:=zFb n2 T2
 have dq:q∣(n:Int):=⟨p*m,by rw[T2.e,Int.mul_comm p q,Int.mul_assoc]⟩
 obtain⟨tt,ett,tt0,enq,qle⟩:=Rg.w5 n1 q2 dq
 have et:(tt:Int)=p*m:=ett.symm.trans T2.t
 have mt:(m:Int) < tt:=by
  have:=Int.mul_le_mul_of_nonneg_right (show 2≤p by omega) (show (0:Int)≤m by omega)
  omega
 refine⟨_,(zC (zM (i:=3) nd rfl (Or.inl rfl) (wE zH)) (zC (jA PassesOwn.never rfl (pi_range2 (by rfl) T.b_range (zA zG (zA (zO vX (zO zY (pv 0) (zO vO (pv 1) (pv 2))) zG) zH))) (zZ (i:=4) nd rfl (Or.inl rfl)) (zI (jK (pe_bm PySem.F.plainAttrs_list PySem.F.slot_list_extend PySem.F.type_list_extend zCe (pv 3) (zA (zQ D_ring_holes (hr.mono (by decide)) (by rfl) (zA (pv 0) (zA (pv 2) (zA (pv 4) zH)))) zH))))) (zI (zT (pv 3))))),?_⟩
 refine⟨Nat.zero_le _,fun ho hho=>?_⟩
 have sm0:zR H (upd H ho (.lst [])):=zK (zR.refl _) hho
 have hh0:upd H ho (.lst []) ho=some (.lst []):=zD
 generalize upd H ho (.lst [])=H0 at sm0 hh0 ⊢
 refine⟨_,rfl,_,rfl,_,rfl,_,_,rfl,rfl,vF (by omega) (by omega),_,_,rfl,rfl,zU (by omega) (by omega),_,_,rfl,rfl,1,(m:Int)+1,?_,⟨by omega,by omega,by omega,by omega⟩,?_⟩
 ·show [V.int 1,V.int ((n:Int)/(p*q)+1)]=_
  rw[em]
 rw[show ((m:Int)+1-1).toNat=m by omega]
 refine zEe (lo:=1) (n:=m) (fun i σ H2=>zR H H2∧∃ o1:Option V,σ=[some (.int n),some (.int p),some (.int q),some (.ref ho),o1]∧H2 ho=some (.lst (((List.range (i*q.toNat)).map (Se.F q.toNat (p*m))).map V.int)))
  ⟨sm0,none,rfl,by rw[Nat.zero_mul];exact hh0⟩ ?_ ?_
 ·rintro i σ H2 hi ⟨sm2,o1,rfl,h2⟩
  have e1:(1+(i:Int))%(tt:Int)=(i:Int)+1:=by rw[Int.add_comm];exact Int.emod_eq_of_lt (by omega) (by omega)
  refine⟨_,rfl,.inl ⟨rfl,_,SqL.of h2⟩,_,rfl,_,rfl,_,rfl,n,q,1+(i:Int),tt,rfl,n1,n2,q2,qle,ett,tt0,enq,fun t ht=>?_⟩
  rw[e1]
  have nt:ho≠t:=zJ h2 ht
  refine⟨ho,t,_,_,rfl,rfl,(zL nt).trans h2,zD,?_,?_⟩
  ·have l1:(i:Int)*q.toNat≤m*q:=by
    rw[Int.toNat_of_nonneg (by omega)];exact Int.mul_le_mul_of_nonneg_right (by omega) (by omega)
   have l2:((i*q.toNat:Nat):Int)=i*q.toNat:=Int.natCast_mul _ _
   rw[rg3_map,List.length_map,List.length_map,List.length_map,List.length_map,List.length_range,List.length_range]
   exact size2 (by omega)
  ·refine⟨fun d o h=>(zL (fun z=>by rw[z,hho] at h;cases h)).trans ((zK sm2 ht) d o h),_,rfl,?_⟩
   rw[zD,← List.map_append,rg3_map,et,← Se.cl_snoc (by omega)]
 ·rintro σ H2 ⟨sm2,o1,rfl,h2⟩
  exact⟨_,rfl,qq ho H2 sm2 h2⟩
def jH (n:Nat):List Int→List (List Int)
 | []=>[]
 | [p]=>[(List.range ((n:Int)/p).toNat).map fun (i:Nat)=>(i:Int)]
 | p::q::_=>[(List.range (((n:Int)/(p*q)).toNat*q.toNat)).map (Se.F q.toNat (p*((n:Int)/(p*q)).toNat)),(List.range p.toNat).map fun (k:Nat)=>(k:Int)*(q*((n:Int)/(p*q)).toNat)]
def spStarts:Sp:=fun vs H Q _=>∃ (n:Nat)(ps:List (Int×Int)),vs=[.int n]∧1≤n∧n≤420∧n≠1∧Pt.Parts n ps∧ps.length≤2∧∀ t H' (as:List Addr),zR H H'→H' t=some (.lst (as.map V.ref))→Paired (fun a (l:List Int)=>H' a=some (.lst (l.map V.int))) as (jH n (ps.map Prod.fst))→Q (.ref t) H'
theorem zEu (T:Txt K mg t_MOST_HOLES t_LEAD_BITS):Df P w K mg base 4 "ring_starts" ["n"] spStarts:=by
 have D_few_primes:=jC (P:=P) (w:=w) (base:=base) T
 have D_crossing_last:=zDk (P:=P) (w:=w) (base:=base) T
 have D_ring_holes:=jD (P:=P) (w:=w) (base:=base) T
 refine T.d_ring_starts.ok zBj (fun vs H Q E h=>?_) (fun f cdv A outer s H vs Q E hr h=>?_)
 ·obtain⟨_,_,rfl,_⟩:=h;rfl
 obtain⟨n,ps,rfl,n1,n2,nn1,hp,l2,q⟩:=h
 have nd:=zBj.nd
 have ne:=Sk.parts_ne hp nn1
 have rng:∀ y∈ps,2≤y.1∧y.1≤n∧y.1∣(n:Int):=fun y hy=>by
  have pd:y.1∣(n:Int):=((Pt.vG hp y).mp hy).2.1
  exact⟨(hp.row y hy).pr.1,Int.le_of_dvd (by omega) pd,pd⟩
 refine⟨_,(zC (zM (i:=1) nd rfl (Or.inl rfl) (zQ D_few_primes (hr.mono (by decide)) (by rfl) (zA (pv 0) zH))) (zC (vL (zN jR (zW zP (by rfl) T.b_len L2.vY (zA (pv 1) zH)) zG (zS _)) (zI (zT (wE (zA (pe_lrng1 rfl (by rfl) T.b_list (by rfl) T.b_range (zA (zO zY (pv 0) (vA vD (pv 1) zG (fun _ _=>rfl))) zH)) zH)))) zX) (zI (zT (wE (zA (zQ D_crossing_last (hr.mono (by decide)) (by rfl) (zA (pv 0) (zA (vA vD (pv 1) zG (fun _ _=>rfl)) (zA (vA vD (pv 1) zG (fun _ _=>rfl)) zH)))) (zA (zQ D_ring_holes (hr.mono (by decide)) (by rfl) (zA (pv 0) (zA (vA vD (pv 1) zG (fun _ _=>rfl)) (zA zG zH)))) zH))))))),?_⟩
 refine⟨_,rfl,n,ps,rfl,n1,n2,hp,l2,fun r H1 sm1 h1=>?_⟩
 match ps,l2,hp,rng,ne,h1,q with
 | [],_,hp,rng,ne,h1,q=>exact absurd rfl ne
 | [x],_,hp,rng,ne,h1,q =>
  obtain⟨p2,pn,pd⟩:=rng x (by simp)
  have d0:(0:Int)≤(n:Int)/x.1:=Int.ediv_nonneg (by omega) (by omega)
  have d1:(n:Int)/x.1≤n:=Int.ediv_le_self _ (by omega)
  have a0:atI (([x].map Prod.fst).map V.int) 0=some (.int x.1):=rfl
  refine⟨_,rfl,r,_,rfl,.inl (SqL.of h1),rfl,_,rfl,zDp (decide_eq_true rfl) ?_⟩
  refine⟨_,rfl,_,rfl,r,_,_,_,rfl,rfl,SqL.of h1,a0,_,_,rfl,rfl,zU (by omega) (by omega),((n:Int)/x.1).toNat,?_,by omega,fun l hl=>⟨(by show 1≤sizeLine;decide),fun t ht=>?_⟩⟩
  ·show [V.int ((n:Int)/x.1)]=_
   rw[Int.toNat_of_nonneg d0]
  ·exact q t _ [l] (zK (zK sm1 hl) ht) zD (.cons ((zL (fun z=>by rw[← z,zD] at ht;cases ht)).trans zD) .nil)
 | [x,y],_,hp,rng,ne,h1,q =>
  obtain⟨p2,pn,pd⟩:=rng x (by simp)
  obtain⟨q2,qn,qd⟩:=rng y (by simp)
  obtain⟨m,T2,em⟩:=Sk.zFn n1 hp rfl
  have a0:atI (([x,y].map Prod.fst).map V.int) 0=some (.int x.1):=rfl
  have a1:atI (([x,y].map Prod.fst).map V.int) 1=some (.int y.1):=rfl
  obtain⟨st,est,st0,enp,ple⟩:=Rg.w5 n1 p2 pd
  have es:(st:Int)=y.1*m:=est.symm.trans T2.s
  refine⟨_,rfl,r,_,rfl,.inl (SqL.of h1),rfl,_,rfl,zBf (by simp) ?_⟩
  refine⟨_,rfl,_,rfl,r,_,_,_,rfl,rfl,SqL.of h1,a0,_,rfl,r,_,_,_,rfl,rfl,SqL.of h1,a1,n,m,x.1,y.1,rfl,n1,n2,T2,em,fun l1 H2 sm2 h2=>?_⟩
  have h12:=sm2 _ _ h1
  refine⟨_,rfl,_,rfl,r,_,_,_,rfl,rfl,SqL.of h12,a0,n,x.1,0,st,rfl,n1,n2,p2,ple,est,st0,enp,fun l2' hl2=>⟨(by show 2≤sizeLine;decide),fun t ht=>?_⟩⟩
  have sm3:∀ o,zR H2 (upd (upd H2 l2' (.lst ((rg3 (0%(st:Int)) st x.1.toNat).map V.int))) t o):=fun o=>zK (zK (zR.refl H2) hl2) ht
  have k2:∀ o,upd (upd H2 l2' (.lst ((rg3 (0%(st:Int)) st x.1.toNat).map V.int))) t o l2'=some (.lst ((rg3 (0%(st:Int)) st x.1.toNat).map V.int)):=fun o=>(zL (fun z=>by rw[← z,zD] at ht;cases ht)).trans zD
  refine q t _ [l1,l2'] ((sm1.trans sm2).trans (sm3 _)) zD (.cons ?_ (.cons ?_ .nil))
  ·rw[sm3 _ _ _ h2]
   show _=some (HO.lst (((List.range (((n:Int)/(x.1*y.1)).toNat*y.1.toNat)).map (Se.F y.1.toNat (x.1*(((n:Int)/(x.1*y.1)).toNat:Nat)))).map V.int))
   rw[em,Int.toNat_natCast]
  ·rw[k2]
   show _=some (HO.lst (((List.range x.1.toNat).map fun (k:Nat)=>(k:Int)*(y.1*(((n:Int)/(x.1*y.1)).toNat:Nat))).map V.int))
   rw[em,Int.toNat_natCast,rg3_map,Int.zero_emod,es]
   have e:((List.range x.1.toNat).map fun (i:Nat)=>0+(i:Int)*(y.1*m))=(List.range x.1.toNat).map fun (k:Nat)=>(k:Int)*(y.1*m):=List.map_congr_left fun k _=>Int.zero_add _
   rw[e]
theorem cut_toA (xs:List V)(k:Nat):cutV xs none (some (k:Int))=xs.take k:=by
 unfold cutV
 rw[HT.sIx_nat,HT.sIx_none,List.drop_zero,Nat.sub_zero]
 rcases Nat.le_total k xs.length with h | h
 ·rw[Nat.min_eq_left h]
 ·rw[Nat.min_eq_right h,List.take_length,List.take_of_length_le h]
def Due (n:Nat)(pl:List Int)(many:Int):Prop:=(n=1∧many=0)∨(n≠1∧Ps.Can pl many∧Ps.Can pl ((n:Int)-many))
def grp (pl cs:List Int)(ls:List (List Int))(j:Nat):List (Int×Int×Int):=((ls.getD j []).take (cs.getD j 0).toNat).map fun h=>(pl.getD j 0,h,(1:Int))
def grps (pl cs:List Int)(ls:List (List Int))(i:Nat):List (Int×Int×Int):=(List.range i).flatMap (grp pl cs ls)
theorem zAq (pl cs:List Int)(ls:List (List Int))(i:Nat):grps pl cs ls (i+1)=grps pl cs ls i ++ grp pl cs ls i:=by
 unfold grps;rw[List.range_succ,List.flatMap_append];simp
theorem getD_of {α:Type}{l:List α}{i:Nat}{x d:α}(h:l[i]?=some x):l.getD i d=x:=by rw[List.getD,h];rfl
theorem starts_len {n:Nat}{ps:List (Int×Int)}(n1:1≤n)(n2:n≤420)(nn1:n≠1)(hp:Pt.Parts n ps)(l2:ps.length≤2):(jH n (ps.map Prod.fst)).length=ps.length∧∀ l∈jH n (ps.map Prod.fst),l.length≤420:=by
 have rng:∀ y∈ps,2≤y.1∧y.1≤n∧y.1∣(n:Int):=fun y hy=>by
  have pd:y.1∣(n:Int):=((Pt.vG hp y).mp hy).2.1
  exact⟨(hp.row y hy).pr.1,Int.le_of_dvd (by omega) pd,pd⟩
 match ps,l2,hp,rng with
 | [],_,_,_=>exact⟨rfl,fun l hl=>(nomatch hl)⟩
 | [x],_,hp,rng =>
  refine⟨rfl,fun l hl=>?_⟩
  have d1:(n:Int)/x.1≤n:=Int.ediv_le_self _ (by omega)
  rw[List.mem_singleton.mp hl,List.length_map,List.length_range]
  omega
 | [x,y],_,hp,rng =>
  refine⟨rfl,fun l hl=>?_⟩
  obtain⟨m,T2,em⟩:=Sk.zFn n1 hp rfl
  obtain⟨b1,b2,b3,b4,b5,b6,_,b8⟩:=zFb n2 T2
  have q2:=T2.q2
  rcases List.mem_cons.mp hl with z | z
  ·rw[z,List.length_map,List.length_range]
   show ((n:Int)/(x.1*y.1)).toNat*y.1.toNat≤420
   rw[em,Int.toNat_natCast]
   have:((m*y.1.toNat:Nat):Int)=m*y.1:=by rw[Int.natCast_mul,Int.toNat_of_nonneg (by omega)]
   omega
  ·rw[List.mem_singleton.mp z,List.length_map,List.length_range]
   have:=b4
   omega
theorem starts_ne {n:Nat}{ps:List (Int×Int)}(n1:1≤n)(nn1:n≠1)(hp:Pt.Parts n ps)(l2:ps.length≤2):0 < ps.length∧∀ l∈jH n (ps.map Prod.fst),l≠[]:=by
 have ne:=Sk.parts_ne hp nn1
 have rng:∀ y∈ps,2≤y.1∧y.1≤n∧y.1∣(n:Int):=fun y hy=>by
  have pd:y.1∣(n:Int):=((Pt.vG hp y).mp hy).2.1
  exact⟨(hp.row y hy).pr.1,Int.le_of_dvd (by omega) pd,pd⟩
 have mne:∀ (k:Nat)(f:Nat→Int),0 < k→(List.range k).map f≠[]:=fun k f hk z=>by have:=congrArg List.length z;rw[List.length_map,List.length_range] at this;simp at this;omega
 match ps,l2,hp,rng,ne with
 | [],_,_,_,ne=>exact absurd rfl ne
 | [x],_,hp,rng,_ =>
  obtain⟨p2,pn,pd⟩:=rng x (by simp)
  refine⟨by simp,fun l hl=>?_⟩
  obtain⟨st,est,st0,_,_⟩:=Rg.w5 n1 p2 pd
  rw[List.mem_singleton.mp hl]
  exact mne _ _ (by show 0 < ((n:Int)/x.1).toNat;rw[est];omega)
 | [x,y],_,hp,rng,_ =>
  refine⟨by simp,fun l hl=>?_⟩
  obtain⟨m,T2,em⟩:=Sk.zFn n1 hp rfl
  have p2:=T2.p2
  have q2:=T2.q2
  rcases List.mem_cons.mp hl with z | z
  ·rw[z]
   refine mne _ _ ?_
   show 0 < ((n:Int)/(x.1*y.1)).toNat*y.1.toNat
   rw[em,Int.toNat_natCast]
   exact Nat.mul_pos T2.m0 (by omega)
  ·rw[List.mem_singleton.mp z]
   exact mne _ _ (by omega)
theorem jV {α:Type}(f:Nat→α){a k:Nat}(h:a≤k):((List.range k).map f).take a=(List.range a).map f:=by
 rw[← List.map_take,List.take_range,Nat.min_eq_left h]
theorem set_rows {n:Nat}{ps:List (Int×Int)}{many:Int}{cs:List Int}(n1:1≤n)(n2:n≤420)(nn1:n≠1)(hp:Pt.Parts n ps)(l2:ps.length≤2)(lc:cs.length=ps.length)(c0:∀ c∈cs,0≤c)(dt:Ps.dot cs (ps.map Prod.fst)=many)(rd:Rd ps cs)
  (can:Ps.Can (ps.map Prod.fst) ((n:Int)-many)):(∀ r∈grps (ps.map Prod.fst) cs (jH n (ps.map Prod.fst)) ps.length,r.2.2=1∧r.1∈ps.map Prod.fst)∧(grps (ps.map Prod.fst) cs (jH n (ps.map Prod.fst)) ps.length).Pairwise (Se.Dis n)∧((grps (ps.map Prod.fst) cs (jH n (ps.map Prod.fst)) ps.length).map fun r=>r.1*r.2.2).sum=many:=by
 have ne:=Sk.parts_ne hp nn1
 have rng:∀ y∈ps,2≤y.1∧y.1≤n∧y.1∣(n:Int):=fun y hy=>by
  have pd:y.1∣(n:Int):=((Pt.vG hp y).mp hy).2.1
  exact⟨(hp.row y hy).pr.1,Int.le_of_dvd (by omega) pd,pd⟩
 match ps,l2,hp,rng,ne,cs,lc,can,dt,c0,rd with
 | [],_,_,_,ne,_,_,_,_,_,_=>exact absurd rfl ne
 | [x],_,hp,rng,_,[c],_,can,dt,c0,rd =>
  obtain⟨p2,pn,pd⟩:=rng x (by simp)
  have dt':c*x.1=many:=by have:c*x.1+0=many:=dt;omega
  have c1:=c0 c (by simp)
  have mo:=Se.most1 p2 pd dt' can
  have e:grps ([x].map Prod.fst) [c] (jH n ([x].map Prod.fst)) [x].length=Se.rows1 x.1 c.toNat:=by
   show grps [x.1] [c] (jH n [x.1]) (0+1)=_
   rw[zAq]
   show [] ++ (((List.range ((n:Int)/x.1).toNat).map fun (i:Nat)=>(i:Int)).take c.toNat).map (fun h=>(x.1,h,(1:Int)))=_
   rw[jV _ (by omega),List.map_map];rfl
  rw[e]
  exact⟨Se.rows1_one,Se.rows1_dis (by rw[Int.toNat_of_nonneg c1];exact mo),by rw[Se.rows1_sum,Int.toNat_of_nonneg c1];exact dt'⟩
 | [x,y],_,hp,rng,_,[a,b],_,can,dt,c0,rd =>
  obtain⟨p2,pn,pd⟩:=rng x (by simp)
  obtain⟨q2,qn,qd⟩:=rng y (by simp)
  obtain⟨m,T2,em⟩:=Sk.zFn n1 hp rfl
  have dt':a*x.1+b*y.1=many:=by have:a*x.1+(b*y.1+0)=many:=dt;omega
  have a0:=c0 a (by simp)
  have b0:=c0 b (by simp)
  have mo:=Se.most T2 a0 b0 dt' can
  have bx:=rd x y rfl a b rfl
  have le:a.toNat≤m*y.1.toNat:=by
   have:((m*y.1.toNat:Nat):Int)=m*y.1:=by rw[Int.natCast_mul,Int.toNat_of_nonneg (by omega)]
   omega
  have e:grps ([x,y].map Prod.fst) [a,b] (jH n ([x,y].map Prod.fst)) [x,y].length=Se.rows2 x.1 y.1 m a.toNat b.toNat:=by
   show grps [x.1,y.1] [a,b] (jH n [x.1,y.1]) (0+1+1)=_
   rw[zAq,zAq]
   show [] ++ (((List.range (((n:Int)/(x.1*y.1)).toNat*y.1.toNat)).map (Se.F y.1.toNat (x.1*(((n:Int)/(x.1*y.1)).toNat:Nat)))).take a.toNat).map (fun h=>(x.1,h,(1:Int))) ++ (((List.range x.1.toNat).map fun (k:Nat)=>(k:Int)*(y.1*(((n:Int)/(x.1*y.1)).toNat:Nat))).take b.toNat).map (fun h=>(y.1,h,(1:Int)))=_
   rw[em,Int.toNat_natCast,jV _ le,jV _ (by omega),List.map_map,List.map_map];rfl
  rw[e]
  refine⟨fun r hr=>Se.rows2_one r hr,Se.rows2_dis T2 (by omega) (by omega) ?_,by rw[Se.rows2_sum,Int.toNat_of_nonneg a0,Int.toNat_of_nonneg b0];exact dt'⟩
  by_cases bz:b=0
  ·exact .inl (by omega)
  ·exact .inr (by have:=mo.2 (by omega);omega)
theorem grp_len {pl cs:List Int}{ls:List (List Int)}(h:∀ l∈ls,l.length≤420)(j:Nat):(grp pl cs ls j).length≤420:=by
 unfold grp
 rw[List.length_map,List.length_take]
 rcases Nat.lt_or_ge j ls.length with g | g
 ·have:(ls.getD j []).length≤420:=by rw[List.getD,List.getElem?_eq_getElem g];exact h _ (List.getElem_mem g)
  omega
 ·have:ls.getD j []=[]:=by rw[List.getD,List.getElem?_eq_none g];rfl
  rw[this];simp
def spSetting:Sp:=fun vs H Q _=>∃ (n:Nat)(many:Int)(ps:List (Int×Int)),vs=[.int n,.int many]∧1≤n∧n≤420∧Pt.Parts n ps∧ps.length≤2 ∧
 (¬ Due n (ps.map Prod.fst) many→∀ H',zR H H'→Q .non H')∧(Due n (ps.map Prod.fst) many→∀ t H' b,zR H H'→H' t=some (.lst (b.map V.int))→Se.Set n (ps.map Prod.fst) many b→Q (.ref t) H')
theorem ok_setting (T:Txt K mg t_MOST_HOLES t_LEAD_BITS):Df P w K mg base 5 "setting" ["n","many"] spSetting:=by
 have D_prime_sum:=ok_prime_sum (P:=P) (w:=w) (base:=base) T
 have D_few_primes:=jC (P:=P) (w:=w) (base:=base) T
 have D_ring_starts:=zEu (P:=P) (w:=w) (base:=base) T
 have D_laid:=ok_laid (P:=P) (w:=w) (base:=base) T
 refine T.d_setting.ok zFj (fun vs H Q E h=>?_) (fun f cdv A outer s H vs Q E hr h=>?_)
 ·obtain⟨_,_,_,rfl,_⟩:=h;rfl
 obtain⟨n,many,ps,rfl,n1,n2,hp,l2,qn,qc⟩:=h
 have nd:=zFj.nd
 refine⟨_,(zC (vL (zN jR (pv 0) zG (zS _)) (zI (zT (pe_ifExp (zN jR (pv 1) zG (zS _)) (wE (zA zG zH)) jL))) zX) (zC (zM (i:=2) nd rfl (Or.inl rfl) (zQ D_prime_sum (hr.mono (by decide)) (by rfl) (zA (pv 0) (zA (pv 1) zH)))) (zC (vL (PW.pt (zCp (zN op_isN (pv 2) jL (zS _)) (zCv (zN op_isN (zQ D_prime_sum (hr.mono (by decide)) (by rfl) (zA (pv 0) (zA (zO zAs (pv 0) (pv 1)) zH))) jL (zS _))))) (zI (zT jL)) zX) (zC (zM (i:=3) nd rfl (Or.inl rfl) (wE zH)) (zC (jA PassesOwn.never rfl (pi_zt (by rfl) T.b_zip (zA (zQ D_few_primes (hr.mono (by decide)) (by rfl) (zA (pv 0) zH)) (zA (pv 2) (zA (zQ D_ring_starts (hr.mono (by decide)) (by rfl) (zA (pv 0) zH)) zH)))) (zDa rfl (vJ (zZ (i:=4) nd rfl (Or.inr rfl)) (vJ (zZ (i:=5) nd rfl (Or.inl rfl)) (vJ (zZ (i:=6) nd rfl (Or.inl rfl)) zAp)))) (zI (jK (pe_bm PySem.F.plainAttrs_list PySem.F.slot_list_extend PySem.F.type_list_extend zCe (pv 3) (zA (vP (cap:=[("p",4)]) (tgs:=["hole"])  rfl rfl rfl (by decide +kernel) (by decide +kernel) (wT (by rfl)) (wA rfl wR) (v6 ⟨rfl,Or.inl rfl,Or.inl rfl,_,rfl⟩ wP) (vQ (by decide)) (vZ (pe_slice sl_list (pv 6) po_none (po_some (pv 5)))) (fun C s H fp=>⟨(zZ (i:=1) (show (["p","hole"]:List Str).Nodup by decide +kernel) rfl (Or.inl rfl) (Or.inr rfl)),jU,(wI (zA (pv 0) (zA (pv 1) (zA zG zH))))⟩)) zH))))) (zI (zT (zQ D_laid (hr.mono (by decide)) (by rfl) (zA (pv 0) (zA (pv 3) zH)))))))))),?_⟩
 refine⟨_,rfl,rfl,_,rfl,jQ (fun c=>?_) (fun c=>?_)⟩
 ·have e1:n=1:=by have:=vint c;omega
  subst e1
  have ps0:ps=[]:=Pt.w9 hp ⟨rfl,fun x hx=>(nomatch hx),.nil⟩
  subst ps0
  refine⟨_,rfl,rfl,_,rfl,jQ (fun c1=>?_) (fun c1=>?_)⟩
  ·have m0:=vint c1
   refine⟨(by show 1≤sizeLine;decide),fun t ht=>?_⟩
   have z:∀ x,Ld.at' [(0:Int)] x=0:=fun x=>Ld.zEm 1 x
   exact qc (.inl ⟨rfl,m0⟩) t _ [0] (zK (zR.refl _) ht) zD ⟨rfl,fun x=>.inl (z x),m0.symm,z⟩
  ·exact qn (fun d=>by rcases d with d | d;exact zDj c1 d.2;exact d.1 rfl) _ (zR.refl _)
 have nn1:n≠1:=fun z=>zDj c (by rw[z];rfl)
 have pd:∀ p∈ps.map Prod.fst,2≤p∧p∣(n:Int):=fun p hp'=>by
  obtain⟨x,hx,ex⟩:=List.mem_map.mp hp'
  rw[← ex];exact⟨(hp.row x hx).pr.1,((Pt.vG hp x).mp hx).2.1⟩
 refine⟨_,rfl,_,rfl,n,many,ps,rfl,n1,n2,hp,l2,fun nc H1 sm1=>?_,fun cn t1 H1 cs sm1 h1 lc c0 dt rd=>?_⟩
 ·refine⟨_,rfl,rfl,_,rfl,zDp (decide_eq_true rfl) ?_⟩
  exact qn (fun d=>by rcases d with d | d;exact nn1 d.1;exact nc d.2.1) _ sm1
 refine⟨_,rfl,rfl,_,rfl,zBf (fun z=>V.noConfusion (of_decide_eq_true z)) ?_⟩
 refine⟨_,rfl,_,rfl,_,rfl,_,_,rfl,rfl,n,(n:Int)-many,ps,rfl,n1,n2,hp,l2,fun nc H2 sm2=>?_,fun cn2 t2 H2 cs2 sm2 h2 lc2 c02 dt2 rd2=>?_⟩
 ·refine⟨rfl,_,rfl,zDp (decide_eq_true rfl) ?_⟩
  exact qn (fun d=>by rcases d with d | d;exact nn1 d.1;exact nc d.2.2) _ (sm1.trans sm2)
 refine⟨rfl,_,rfl,zBf (fun z=>V.noConfusion (of_decide_eq_true z)) ?_⟩
 obtain⟨one,dis,sum⟩:=set_rows n1 n2 nn1 hp l2 lc c0 dt rd cn2
 obtain⟨sl,sb⟩:=starts_len n1 n2 nn1 hp l2
 have smA:=sm1.trans sm2
 have h12:=sm2 _ _ h1
 refine⟨Nat.zero_le _,fun ro hro=>?_⟩
 have ro0:H ro=none:=smA.free hro
 have sm3:zR H2 (upd H2 ro (.lst [])):=zK (zR.refl _) hro
 have hr3:upd H2 ro (.lst []) ro=some (.lst []):=zD
 generalize upd H2 ro (.lst [])=H3 at sm3 hr3 ⊢
 refine⟨_,rfl,n,ps,rfl,n1,n2,hp,l2,fun rp H4 sm4 h4=>⟨_,rfl,_,rfl,n,ps,rfl,n1,n2,nn1,hp,l2,fun rs H5 as sm5 h5 pr=>?_⟩⟩
 have al:=Paired.length pr
 have h45:=sm5 _ _ h4
 have h15:=sm5 _ _ (sm4 _ _ (sm3 _ _ h12))
 have hr5:=sm5 _ _ (sm4 _ _ hr3)
 have smB:=smA.trans (sm3.trans (sm4.trans sm5))
 have pl0:(ps.map Prod.fst).length=ps.length:=List.length_map _
 have ml:((ps.map Prod.fst).map V.int).length=ps.length:=by rw[List.length_map,List.length_map]
 obtain⟨ne0,nes⟩:=starts_ne n1 nn1 hp l2
 have pos:0 < ps.length:=ne0
 have nrp:rp≠ro:=fun z=>by rw[z,hr5] at h45;have:=congrArg (fun o=>match o with | some (HO.lst l)=>l.length | _=>0) h45;simp at this;omega
 have nrs:rs≠ro:=fun z=>by rw[z,hr5] at h5;have:=congrArg (fun o=>match o with | some (HO.lst l)=>l.length | _=>0) h5;simp at this;omega
 have nt1:t1≠ro:=zJ h12 hro
 have nas:∀ (i:Nat) a,as[i]?=some a→a≠ro∧∃ l,(jH n (ps.map Prod.fst))[i]?=some l∧H5 a=some (.lst (l.map V.int)):=fun i a ha=>by
  obtain⟨l,el,hl⟩:=v8 pr ha
  refine⟨fun z=>?_,l,el,hl⟩
  rw[z,hr5] at hl
  have:=congrArg (fun o=>match o with | some (HO.lst l)=>l.length | _=>0) hl
  have ln:=nes l (List.mem_of_getElem? el)
  cases l with
  | nil=>exact ln rfl
  | cons u v=>simp at this
 refine⟨rp,t1,rs,rfl,⟨_,SqL.of h45⟩,⟨_,SqL.of h15⟩,⟨_,SqL.of h5⟩,?_⟩
 refine for_zt (K:=K) (xs:=(ps.map Prod.fst).map V.int) (ys:=cs.map V.int) (zs:=as.map V.ref) (by rw[ml,List.length_map,lc]) (by rw[ml,List.length_map,al,sl])
  (fun i σ H6=>(∀ d o,d≠ro→H5 d=some o→H6 d=some o)∧(grps (ps.map Prod.fst) cs (jH n (ps.map Prod.fst)) i).length≤i*420∧TrAt H6 ro (grps (ps.map Prod.fst) cs (jH n (ps.map Prod.fst)) i)∧∃ o4 o5 o6:Option V,σ=[some (.int n),some (.int many),some (.ref t1),some (.ref ro),o4,o5,o6])
  ⟨fun d o _ h=>h,by simp [grps],⟨[],hr5,.nil⟩,none,none,none,rfl⟩ (fun i σ H6 _ z=>⟨SqL.of (z.1 _ _ nrp h45),SqL.of (z.1 _ _ nt1 h15),SqL.of (z.1 _ _ nrs h5)⟩) ?_ ?_
 ·rintro i xv yv zv σ H6 pz hx hy hz ⟨kp,rl,⟨rr,hrr,prr⟩,o4,o5,o6,rfl⟩ hpz
  obtain⟨p,rfl,ep⟩:=int_at hx
  obtain⟨c,rfl,ec⟩:=int_at hy
  obtain⟨a,rfl,ea⟩:=zDe hz
  obtain⟨na,l,el,hl⟩:=nas i a ea
  have i2:i < 2:=by have:=(List.getElem?_eq_some_iff.mp ep).1;omega
  have cc0:=c0 c (List.mem_of_getElem? ec)
  have ll:=sb l (List.mem_of_getElem? el)
  have eg:grp (ps.map Prod.fst) cs (jH n (ps.map Prod.fst)) i=(l.take c.toNat).map fun h=>(p,h,(1:Int)):=by unfold grp;rw[getD_of el,getD_of ec,getD_of ep]
  have gl:=grp_len (pl:=ps.map Prod.fst) (cs:=cs) sb i
  have npz:ro≠pz:=zJ hrr hpz
  have sm7:zR H6 (upd H6 pz (.tup [.int p,.int c,.ref a])):=zK (zR.refl _) hpz
  refine⟨pz,_,rfl,SqT.of zD,rfl,_,_,rfl,_,_,rfl,_,_,rfl,rfl,?_⟩
  generalize upd H6 pz (.tup [.int p,.int c,.ref a])=H7 at sm7 ⊢
  have hl7:=sm7 _ _ (kp _ _ na hl)
  have hr7:=sm7 _ _ hrr
  refine⟨_,rfl,.inl ⟨rfl,_,SqL.of hr7⟩,_,rfl,_,rfl,c,rfl,a,_,rfl,SqL.of hl7,fun d hd=>⟨d,rfl,⟨_,SqL.of zD⟩,?_⟩⟩
  have ecut:cutV (l.map V.int) none (some c)=(l.take c.toNat).map V.int:=by
   have e:=cut_toA (l.map V.int) c.toNat
   rw[Int.toNat_of_nonneg cc0,← List.map_take] at e
   exact e
  rw[ecut]
  have sm8:zR H7 (upd H7 d (.lst ((l.take c.toNat).map V.int))):=zK (zR.refl _) hd
  have hd8:upd H7 d (.lst ((l.take c.toNat).map V.int)) d=some (.lst ((l.take c.toNat).map V.int)):=zD
  generalize upd H7 d (.lst ((l.take c.toNat).map V.int))=H8 at sm8 hd8 ⊢
  generalize hk:l.take c.toNat=ks at *
  have kl:ks.length≤420:=by rw[← hk,List.length_take];omega
  refine wG (K:=K) (xs:=ks.map V.int) (fun j ys H9=>zR H8 H9∧∃ bs:List Addr,ys=bs.map V.ref∧Paired (fun ad (x:Int×Int×Int)=>H9 ad=some (.tup [.int x.1,.int x.2.1,.int x.2.2])) bs ((ks.take j).map fun h=>(p,h,(1:Int))))
   ⟨zR.refl _,[],rfl,by rw[List.take_zero];exact .nil⟩ (fun j ys H9 _ z=>z.1.seq (SqL.of hd8)) (fun j ys H9 hj z=>by obtain⟨_,bs,rfl,pb⟩:=z;have:=Paired.length pb;rw[List.length_map,List.length_take] at this;rw[List.length_map] at hj ⊢;exact zAg (by omega)) ?_ ?_
  ·rintro j hv ys H9 hh ⟨sm9,bs,rfl,pb⟩
   obtain⟨h,rfl,eh⟩:=int_at hh
   refine⟨_,rfl,_,rfl,(by show 3≤sizeLine;decide),fun ad had=>?_⟩
   refine⟨zK sm9 had,bs ++ [ad],by rw[List.map_append];rfl,?_⟩
   rw[Pt.take_snoc eh,List.map_append]
   exact Paired.snoc (Paired.zEp pb fun d x e=>(zL (zJ e had)).trans e) zD
  rintro ys H9 ⟨sm9,bs,rfl,pb⟩ D hD
  rw[List.length_map,List.take_length,← eg] at pb
  have smC:zR H6 (upd H9 D (.lst (bs.map V.ref))):=zK (sm7.trans (sm8.trans sm9)) hD
  have hDA:upd H9 D (.lst (bs.map V.ref)) D=some (.lst (bs.map V.ref)):=zD
  have pbA:=Paired.zEp pb fun d x e=>(show upd H9 D (.lst (bs.map V.ref)) d=some (.tup [.int x.1,.int x.2.1,.int x.2.2]) from (zL (zJ e hD)).trans e)
  generalize upd H9 D (.lst (bs.map V.ref))=HA at smC hDA pbA ⊢
  have hrA:=smC _ _ hrr
  have l1:=Paired.length prr
  have l3:=Paired.length pb
  refine⟨ro,D,_,_,rfl,rfl,hrA,hDA,by rw[List.length_map,List.length_map,l1,l3];exact size2 (by omega),?_⟩
  have k1:∀ d (x:Int×Int×Int),HA d=some (.tup [.int x.1,.int x.2.1,.int x.2.2])→upd HA ro (.lst (rr.map V.ref ++ bs.map V.ref)) d=some (.tup [.int x.1,.int x.2.1,.int x.2.2]):=fun d x e=>(zL (fun z=>by rw[z,hrA] at e;cases e)).trans e
  refine⟨fun d o nd' h=>(zL nd').trans (smC _ _ (kp d o nd' h)),by rw[zAq,List.length_append];omega,⟨rr ++ bs,by rw[zD,List.map_append],?_⟩,_,_,_,rfl⟩
  rw[zAq]
  exact Paired.appP (Paired.zEp prr fun d x e=>k1 d x (smC _ _ e)) (Paired.zEp pbA fun d x e=>k1 d x e)
 ·rintro σ H6 ⟨kp,rl,tr,o4,o5,o6,rfl⟩
  rw[ml] at rl tr
  have smD:zR H H6:=fun d o h=>kp d o (fun z=>by rw[z,ro0] at h;cases h) (smB d o h)
  refine⟨_,rfl,_,rfl,n,ro,_,ps,rfl,n1,n2,tr,hp,fun x hx=>(one x hx).2,fun t H' b sm f h lb bv=>?_⟩
  exact qc (.inr ⟨nn1,cn,cn2⟩) t H' b (smD.trans sm) h (Se.set_of n1 (by rw[List.length_map];exact l2) pd one dis sum lb bv)
def spHung:Sp:=fun vs H Q _=>∃ (m:Nat)(h w:Int),vs=[.int m,.int h,.int w]∧1≤m∧m≤420∧∀ r H',zR H H'→H r=none→H' r=some (.lst ((Ld.hung m h w).map V.int))→Q (.ref r) H'
theorem ok_hung (T:Txt K mg t_MOST_HOLES t_LEAD_BITS):Df P w K mg base 1 "hung" ["n","hole","weight"] spHung:=by
 refine T.d_hung.ok sc_hung (fun vs H Q E h=>?_) (fun f cdv A outer s H vs Q E hr h=>?_)
 ·obtain⟨_,_,_,rfl,_⟩:=h;rfl
 obtain⟨m,x,v,rfl,m1,m2,q⟩:=h
 have nd:=sc_hung.nd
 refine⟨_,(zC (zM (i:=3) nd rfl (Or.inl rfl) (zO op_rep (wE (zA zG zH)) (pv 0))) (zC (zDd (pv 2) (zCu (pv 3) (zO vK (pv 1) (pv 0)) set_list)) (zI (zT (pv 3))))),?_⟩
 refine⟨(by show 1≤sizeLine;decide),fun l hl=>⟨_,rfl,l,_,_,rfl,rfl,zD,by omega,by omega,(by show 1*_≤_;exact size2 (by omega)),fun p hp=>?_⟩⟩
 have lp:l≠p:=zJ zD hp
 have hp0:H p=none:=by rwa [zL (Ne.symm lp)] at hp
 rw[rep0]
 refine⟨_,rfl,_,rfl,_,rfl,_,rfl,_,_,rfl,rfl,by omega,p,_,_,_,rfl,rfl,zD,zAy (zEw (by simp)) (by omega) x,?_⟩
 refine⟨_,rfl,q p _ (vE (vE (vE (zR.refl H) hl) hp0) hp0) hp0 ?_⟩
 rw[zD,set_int];rfl
def spFD:Sp:=fun vs H Q _=>∃ p q:Int,vs=[.int p,.int q]∧2≤p∧p≤10000∧Q (.int (q-q/p)) H
theorem zDi (T:Txt K mg t_MOST_HOLES t_LEAD_BITS):Df P w K mg base 1 "first_dropped" ["p","q"] spFD:=by
 refine T.d_first_dropped.ok zAo (fun vs H Q E h=>?_) (fun f cdv A outer s H vs Q E hr h=>?_)
 ·obtain⟨_,_,rfl,_⟩:=h;rfl
 obtain⟨p,q,rfl,p2,pz,k⟩:=h
 have nd:=zAo.nd
 refine⟨_,(zI (zT (zO zAs (pv 1) (zO zY (pv 1) (pv 0))))),?_⟩
 exact⟨_,rfl,_,rfl,_,rfl,_,_,rfl,rfl,zU (by omega) (by omega),_,_,rfl,rfl,k⟩
theorem pq_le {n:Nat}{ps:List (Int×Int)}{p q:Int}(hp:Pt.Parts n ps)(mem:(p,q)∈ps):2≤p∧p≤q∧q≤n:=by
 have a:=Pt.zBn (hp.row _ mem)
 have b:=Pt.le_Prd ps hp.row _ mem
 rw[hp.prd] at b
 exact⟨a.1,a.2,b⟩
def spDropped:Sp:=fun vs H Q _=>∃ (n:Nat)(p q:Int)(ps:List (Int×Int)),vs=[.int n,.int p,.int q]∧1≤n∧n≤420∧Pt.Parts n ps∧(p,q)∈ps ∧
 ∀ u r H',((n:Int)/q*u-1)%q=0→zR H H'→H r=none→H' r=some (.lst ((Rt.drs p q u n).map V.int))→Q (.ref r) H'
theorem ok_dropped (T:Txt K mg t_MOST_HOLES t_LEAD_BITS):Df P w K mg base 4 "dropped" ["n","p","q"] spDropped:=by
 have D_back:=ok_back (P:=P) (w:=w) (base:=base) T
 have D_first_dropped:=zDi (P:=P) (w:=w) (base:=base) T
 refine T.d_dropped.ok zFe (fun vs H Q E h=>?_) (fun f cdv A outer s H vs Q E hr h=>?_)
 ·obtain⟨_,_,_,_,rfl,_⟩:=h;rfl
 obtain⟨n,p,q,ps,rfl,n1,n2,hp,mem,k⟩:=h
 have nd:=zFe.nd
 have pq:=pq_le hp mem
 refine⟨_,(zC (zM (i:=3) nd rfl (Or.inr rfl) (zQ D_back (hr.mono (by decide)) (by rfl) (zA (zO zY (pv 0) (pv 2)) (zA (pv 2) zH)))) (zI (zT (vP (cap:=[("q",2),("p",1),("lead",3)]) (tgs:=["hole"])  rfl rfl rfl (by decide +kernel) (by decide +kernel) (wT (by rfl)) (wA rfl (wA rfl (wA rfl wR))) (v6 ⟨rfl,Or.inl rfl,Or.inl rfl,_,rfl⟩ (v6 ⟨rfl,Or.inl rfl,Or.inl rfl,_,rfl⟩ (v6 ⟨rfl,Or.inl rfl,Or.inl rfl,_,rfl⟩ wP))) (vQ (by decide)) (jP (by rfl) T.b_range (zA (pv 0) zH)) (fun C s H fp=>⟨(zZ (i:=3) (show (["q","p","lead","hole"]:List Str).Nodup by decide +kernel) rfl (Or.inl rfl) (Or.inr rfl)),(pts_one (zN op_ge (zO vK (zO vO (pv 3) (pv 2)) (pv 0)) (zQ D_first_dropped (hr.mono (by decide)) (by rfl) (zA (pv 1) (zA (pv 0) zH))) (zS _))),(pv 3)⟩))))),?_⟩
 refine⟨_,rfl,_,rfl,_,_,rfl,rfl,zU (by omega) (by omega),_,rfl,_,q,rfl,by omega,by omega,Rs.G_part hp mem,fun u HB u1 u2 hu smB=>?_⟩
 have pc:=Rt.Pc.mk' n1 hp mem hu
 refine⟨_,rfl,_,rfl,by omega,by omega,?_⟩
 rw[Int.toNat_natCast]
 refine zDy (fun i ys H2=>H2=HB∧ys=(Rt.drs p q u i).map V.int) ⟨rfl,rfl⟩ (fun i ys H2 hi z=>by rw[z.2,List.length_map];have:=Rt.drs_len (p:=p) (q:=q) (u:=u) i;exact zAg (by omega)) ?_ ?_
 ·rintro i ys H2 hi ⟨rfl,rfl⟩
  refine⟨_,rfl,_,rfl,_,_,rfl,rfl,vF (by omega) (by omega),_,rfl,_,_,rfl,rfl,(show 0 < q by omega),_,rfl,_,rfl,p,q,rfl,pq.1,by omega,_,_,rfl,rfl,_,rfl,?_⟩
  refine jQ (fun c=>?_) (fun c=>?_)
  ·have t:=(pc.top_iff i).mp (dec c)
   refine⟨_,rfl,rfl,?_⟩
   simp only [Rt.drs]
   rw[if_pos t,List.map_append];rfl
  ·have t:¬ Rt.top p q u i=p-1:=fun z=>ndec c ((pc.top_iff i).mpr z)
   refine⟨rfl,?_⟩
   simp only [Rt.drs]
   rw[if_neg t,List.append_nil]
 ·rintro ys H2 ⟨rfl,rfl⟩ D hD
  exact k u D _ hu (zK smB hD) (smB.free hD) zD
def spRest (K:PySem.W.Frag):Sp:=fun vs H Q _=>∃ (r:Addr)(a:List Int)(n:Nat),vs=[.ref r]∧(SqL K H r (a.map V.int)∨SqT K H r (a.map V.int))∧a.length=n∧1≤n∧n≤420 ∧
 ∀ t le ro H' b ps l rows,zR H H'→H t=none→H le=none→H ro=none→H' t=some (.tup [.ref le,.ref ro])→H' le=some (.lst (b.map V.int))→b.length=n→Rt.Ld' n ps l→(∀ x,Ld.at' b x=Rt.R n l (Ld.at' a) x)→TrAt H' ro rows→(Rt.zAr n (fun p _=>p∈ps.map Prod.fst) a b rows∧rows.length≤4000)→Q (.ref t) H'
theorem ok_rest (T:Txt K mg t_MOST_HOLES t_LEAD_BITS):Df P w K mg base 5 "rest" ["load"] (spRest K):=by
 have D_parts:=ok_parts (P:=P) (w:=w) (base:=base) T
 have D_dropped:=ok_dropped (P:=P) (w:=w) (base:=base) T
 have D_lay_ring:=zEh (P:=P) (w:=w) (base:=base) T
 refine T.d_rest.ok sc_rest (fun vs H Q E h=>?_) (fun f cdv A outer s H vs Q E hr h=>?_)
 ·obtain⟨_,_,_,rfl,_⟩:=h;rfl
 obtain⟨r,a,n,rfl,ha,la,n1,n2,q⟩:=h
 have nd:=sc_rest.nd
 refine⟨_,(zC (zM (i:=1) nd rfl (Or.inl rfl) (zW zP (by rfl) T.b_len L2.vY (zA (pv 0) zH))) (zC (zM (i:=2) nd rfl (Or.inl rfl) (zCh zAx (by rfl) T.b_list L2.zBs (zA (pv 0) zH))) (zC (zM (i:=3) nd rfl (Or.inl rfl) (wE zH)) (zC (jA PassesOwn.never rfl (vZ (zQ D_parts (hr.mono (by decide)) (by rfl) (zA (pv 1) zH))) (zDa rfl (vJ (zZ (i:=4) nd rfl (Or.inl rfl)) (vJ (zZ (i:=5) nd rfl (Or.inl rfl)) zAp))) (zI (jA PassesOwn.never rfl (vZ (zQ D_dropped (hr.mono (by decide)) (by rfl) (zA (pv 1) (zA (pv 4) (zA (pv 5) zH))))) (zZ (i:=6) nd rfl (Or.inl rfl)) (zC (zM (i:=7) nd rfl (Or.inl rfl) (vA vD (pv 2) (pv 6) (fun _ _=>rfl))) (zI (vL (zN zEy (pv 7) zG (zS _)) (zC (jK (zQ D_lay_ring (hr.mono (by decide)) (by rfl) (zA (pv 2) (zA (pv 4) (zA (pv 6) (zA (pe_un un_neg (pv 7)) zH)))))) (zI (jK (pe_bm PySem.F.plainAttrs_list PySem.F.slot_list_append PySem.F.type_list_append zBy (pv 3) (zA (wI (zA (pv 4) (zA (pv 6) (zA (pv 7) zH)))) zH))))) zX)))))) (zI (zT (wI (zA (pv 2) (zA (pv 3) zH))))))))),?_⟩
 refine⟨_,rfl,r,_,rfl,ha,?_⟩
 rw[zEw la]
 refine⟨_,rfl,r,_,rfl,ha,fun le hle=>?_⟩
 refine⟨Nat.zero_le _,fun ro hro=>?_⟩
 have nlr:le≠ro:=zJ zD hro
 have ro0:H ro=none:=by rwa [zL (Ne.symm nlr)] at hro
 have sm0:zR H (upd (upd H le (.lst (a.map V.int))) ro (.lst [])):=zK (zK (zR.refl _) hle) hro
 have hl0:upd (upd H le (.lst (a.map V.int))) ro (.lst []) le=some (.lst (a.map V.int)):=(zL nlr).trans zD
 have hr0:upd (upd H le (.lst (a.map V.int))) ro (.lst []) ro=some (.lst []):=zD
 generalize upd (upd H le (.lst (a.map V.int))) ro (.lst [])=H0 at sm0 hl0 hr0 ⊢
 refine⟨_,rfl,n,rfl,by omega,by omega,fun r1 H1 ps sm1 f1 pa hp=>?_⟩
 obtain⟨as,hl,pr⟩:=pa
 have al:=Paired.length pr
 have few:=Rt.few_parts hp n2
 have n1l:r1≠le:=Ne.symm (zJ hl0 f1)
 have n1r:r1≠ro:=Ne.symm (zJ hr0 f1)
 have kH:∀ {H':Hp},(∀ c o,c≠le→c≠ro→H1 c=some o→H' c=some o)→zR H H':=fun kp c o h=>kp c o (fun z=>by rw[z,hle] at h;cases h) (fun z=>by rw[z,ro0] at h;cases h) (sm1 _ _ (sm0 _ _ h))
 have tl:∀ {x:Addr}{o:List V},H1 x=some (.tup o)→x≠le∧x≠ro:=fun e=>⟨ne_of e (sm1 _ _ hl0) (fun z=>by cases z),ne_of e (sm1 _ _ hr0) (fun z=>by cases z)⟩
 refine⟨r1,rfl,⟨_,SqL.of hl⟩,?_⟩
 refine zAe (xs:=as.map V.ref) (fun i σ H4=>(∀ c o,c≠le→c≠ro→H1 c=some o→H4 c=some o)∧∃ (b:List Int)(l:List ((Int×Int)×Int))(rows:List (Int×Int×Int))(o1 o2 o3 o4:Option V),σ=[some (.ref r),some (.int n),some (.ref le),some (.ref ro),o1,o2,o3,o4] ∧
   H4 le=some (.lst (b.map V.int))∧b.length=n∧l.map Prod.fst=ps.take i∧(∀ z∈l,((n:Int)/z.1.2*z.2-1)%z.1.2=0)∧(∀ x,Ld.at' b x=Rt.R n l (Ld.at' a) x)∧TrAt H4 ro rows∧Rt.zAr n (fun p _=>p∈(ps.take i).map Prod.fst) a b rows∧rows.length≤i*n)
  ⟨fun c o _ _ h=>h,a,[],[],none,none,none,none,rfl,sm1 _ _ hl0,la,by simp,by simp,fun x=>rfl,⟨[],sm1 _ _ hr0,.nil⟩,Rt.rows0 a,by simp⟩ (fun i σ H4 _ z=>SqL.of (z.1 _ _ n1l n1r hl)) ?_ ?_
 ·rintro i x σ H4 hx ⟨kp,b,l,rows,o1,o2,o3,o4,rfl,hb,lb,lm,lle,bv,tr,rok,rl⟩
  obtain⟨ad,rfl,ea⟩:=zDe hx
  obtain⟨⟨p,z⟩,ep,hat⟩:=v8 pr ea
  have mem:(p,z)∈ps:=List.mem_of_getElem? ep
  have ilt:=(List.getElem?_eq_some_iff.mp ep).1
  have pq:=pq_le hp mem
  have pd:p∣(n:Int):=((Pt.vG hp (p,z)).mp mem).2.1
  have nt:=tl hat
  have lpc:∀ y∈l,Rt.Pc n y.1.1 y.1.2 y.2:=fun y hy=>Rt.Pc.mk' n1 hp (List.mem_of_mem_take (by rw[← lm];exact List.mem_map.mpr ⟨y,hy,rfl⟩)) (lle y hy)
  refine⟨ad,_,rfl,SqT.of (kp _ _ nt.1 nt.2 hat),rfl,_,_,rfl,_,_,rfl,rfl,?_⟩
  refine⟨_,rfl,_,rfl,_,rfl,n,p,z,ps,rfl,n1,n2,hp,mem,fun u r5 H5 hu sm5 f5 h5=>⟨r5,rfl,⟨_,SqL.of h5⟩,?_⟩⟩
  have pc:=Rt.Pc.mk' n1 hp mem hu
  have per:Ld.Per n (Ld.at' b):=Ld.vM lb
  have n5l:r5≠le:=Ne.symm (zJ hb f5)
  have n5r:r5≠ro:=by obtain⟨x,y,_⟩:=tr;exact Ne.symm (zJ y f5)
  have dlen:=Rt.drs_len (p:=p) (q:=z) (u:=u) n
  have newp:∀ x:Int,x∈(ps.take i).map Prod.fst→¬ x=p:=fun x hx e=>by
   obtain⟨y,hy,ey⟩:=List.mem_map.mp hx
   obtain⟨j,hj,ej⟩:=List.mem_iff_getElem.mp hy
   rw[List.length_take] at hj
   rw[List.getElem_take] at ej
   have pw:=List.pairwise_iff_getElem.mp hp.srt j i (by omega) ilt (by omega)
   rw[ej,(List.getElem?_eq_some_iff.mp ep).2] at pw
   have:y.1 < p:=pw
   omega
  refine zAe (xs:=(Rt.drs p z u n).map V.int) (fun j σ H6=>(∀ c o,c≠le→c≠ro→H5 c=some o→H6 c=some o)∧∃ (b6:List Int)(rows6:List (Int×Int×Int))(o3 o4:Option V),σ=[some (.ref r),some (.int n),some (.ref le),some (.ref ro),some (.int p),some (.int z),o3,o4] ∧
    H6 le=some (.lst (b6.map V.int))∧Rt.PI n p z u (Ld.at' b) j b6∧TrAt H6 ro rows6∧Rt.zAr n (fun x y=>x∈(ps.take i).map Prod.fst∨(x=p∧y∈(Rt.drs p z u n).take j)) a b6 rows6∧rows6.length≤i*n+j)
   ⟨fun c o _ _ h=>h,b,rows,_,_,rfl,sm5 _ _ hb,Rt.pi0 lb (fun _=>rfl),tr.same sm5,rok.weak (fun x y h=>.inl h),by omega⟩ (fun j σ H6 _ y=>SqL.of (y.1 _ _ n5l n5r h5)) ?_ ?_
  ·rintro j xv σ H6 hxj ⟨kp6,b6,rows6,o3,o4,rfl,hb6,pi,tr6,rok6,rl6⟩
   obtain⟨k,rfl,ek⟩:=int_at hxj
   have km:=List.mem_of_getElem? ek
   obtain⟨k0,k1,kt⟩:=Rt.zBo.mp km
   have jlt:=(List.getElem?_eq_some_iff.mp ek).1
   have kv:=pc.pi_val pi ek
   refine⟨_,rfl,_,rfl,le,_,_,_,rfl,rfl,SqL.of hb6,atI_k k0 (by rw[pi.len];exact k1),?_⟩
   rw[kv]
   refine⟨_,rfl,rfl,_,rfl,?_⟩
   have wk:∀ x y:Int,(x∈(ps.take i).map Prod.fst∨(x=p∧y∈(Rt.drs p z u n).take j))→(x∈(ps.take i).map Prod.fst∨(x=p∧y∈(Rt.drs p z u n).take (j+1))):=fun x y h=>h.imp id fun h=>⟨h.1,(Rt.zCc ek).mpr (.inl h.2)⟩
   refine jQ (fun c=>?_) (fun c=>?_)
   ·have mz:¬ Ld.at' b k=0:=vne c
    obtain⟨rs,hrs,prs⟩:=id tr6
    have rsl:=Paired.length prs
    refine⟨_,rfl,_,rfl,_,rfl,_,rfl,_,rfl,le,b6,n,p,k,_,rfl,hb6,pi.len,n1,n2,pq.1,pd,fun H7 b7 kp7 hb7 lb7 inv7=>?_⟩
    have hr7:H7 ro=some (.lst (rs.map V.ref)):=kp7 _ _ (Ne.symm nlr) hrs
    refine⟨_,rfl,.inl ⟨rfl,_,SqL.of hr7⟩,_,rfl,_,rfl,_,rfl,(by show 3≤sizeLine;decide),fun t ht=>?_⟩
    have hr8:upd H7 t (.tup [V.int p,V.int k,V.int (Ld.at' b k)]) ro=some (.lst (rs.map V.ref)):=(zL (zJ hr7 ht)).trans hr7
    have rot:ro≠t:=zJ hr7 ht
    refine⟨ro,_,_,rfl,rfl,hr8,by rw[List.length_map,rsl];have:=Nat.mul_le_mul (show i≤8 by omega) n2;exact zAg (by omega),?_⟩
    have kp8:∀ {c:Addr}{o:HO},c≠le→c≠ro→H6 c=some o→upd (upd H7 t (.tup [V.int p,V.int k,V.int (Ld.at' b k)])) ro (.lst (rs.map V.ref ++ [.ref t])) c=some o:=fun x y e=>by
     have e7:=kp7 _ _ x e
     exact ((zL y).trans (zL (zJ e7 ht))).trans e7
    refine⟨fun c o x y h=>kp8 x y (kp6 c o x y h),b7,rows6 ++ [(p,k,Ld.at' b k)],_,_,rfl,((zL nlr).trans (zL (zJ hb7 ht))).trans hb7,pc.pi1 per pi ek lb7 inv7,⟨rs ++ [t],by rw[zD,List.map_append];rfl,?_⟩,?_,by simp;omega⟩
    ·refine Paired.snoc (Paired.zEp prs fun d x e=>?_) ((zL (Ne.symm rot)).trans zD)
     exact kp8 (ne_of e hb6 (fun z=>by cases z)) (ne_of e hrs (fun z=>by cases z)) e
    ·exact rok6.snoc wk (.inr ⟨rfl,(Rt.zCc ek).mpr (.inr rfl)⟩) (fun x y h e=>h.elim (fun h=>newp x h e.1) fun h=>Rt.nodup_at (Rt.drs_srt n) ek (e.2▸h.2)) k0 k1 mz inv7
   ·have mz:Ld.at' b k=0:=nvne c
    exact⟨kp6,b6,rows6,_,_,rfl,hb6,pc.pi1z per pi ek mz,tr6,rok6.weak wk,by omega⟩
  ·rintro σ H6 ⟨kp6,b6,rows6,o3,o4,rfl,hb6,pi,tr6,rok6,rl6⟩
   rw[List.length_map] at pi rl6
   refine⟨fun c o x y h=>kp6 c o x y (sm5 _ _ (kp c o x y h)),b6,l ++ [((p,z),u)],rows6,_,_,_,_,rfl,hb6,pi.len,by rw[List.map_append,lm,Pt.take_snoc ep];rfl,fun y hy=>?_,fun x=>?_,tr6,rok6.weak (fun x y h=>?_),?_⟩
   ·rcases List.mem_append.mp hy with w | w
    ·exact lle y w
    ·rw[List.mem_singleton.mp w];exact hu
   ·rw[pc.pi_end pi,Rt.R_snoc]
    have:Ld.at' b=Rt.R n l (Ld.at' a):=funext bv
    rw[this]
   ·rw[Pt.take_snoc ep,List.map_append]
    rcases h with w | w
    ·exact List.mem_append_left _ w
    ·exact List.mem_append_right _ (by rw[w.1];simp)
   ·rw[Nat.succ_mul];omega
 ·rintro σ H4 ⟨kp,b,l,rows,o1,o2,o3,o4,rfl,hb,lb,lm,lle,bv,tr,rok,rl⟩
  rw[List.length_map,al,List.take_length] at lm rok
  have rl4:rows.length≤4000:=by rw[List.length_map,al] at rl;have:=Nat.mul_le_mul few n2;omega
  refine⟨_,rfl,_,rfl,(by show 2≤sizeLine;decide),fun t ht=>?_⟩
  have smt:zR H4 (upd H4 t (.tup [V.ref le,V.ref ro])):=zK (zR.refl _) ht
  have smF:=kH kp
  exact q t le ro _ b ps l rows (smF.trans smt) (smF.free ht) hle ro0 zD (smt _ _ hb) lb ⟨n1,hp,lm,lle⟩ bv (tr.same smt) ⟨rok,rl4⟩
def spDiv:Sp:=fun vs H Q _=>∃ a b:Int,vs=[.int a,.int b]∧Q (.int (Eh.G a b)) H
theorem zFl (T:Txt K mg t_MOST_HOLES t_LEAD_BITS):Df P w K mg base 1 "divisor" ["one","other"] spDiv:=by
 refine T.d_divisor.ok zFv (fun vs H Q E h=>?_) (fun f cdv A outer s H vs Q E hr h=>?_)
 ·obtain⟨_,_,rfl,_⟩:=h;rfl
 obtain⟨a,b,rfl,q⟩:=h
 have nd:=zFv.nd
 refine⟨_,(zC (zM (i:=2) nd rfl (Or.inl rfl) (zW call_abs (by rfl) T.b_abs L2.bi_abs (zA (pv 0) zH))) (zC (zM (i:=3) nd rfl (Or.inl rfl) (zW call_abs (by rfl) T.b_abs L2.bi_abs (zA (pv 1) zH))) (zC (zAd PassesOwn.never (zN zEy (pv 3) zG (zS _)) (zC (zM (i:=4) nd rfl (Or.inl rfl) (zO vK (pv 2) (pv 3))) (zC (zM (i:=2) nd rfl (Or.inl rfl) (pv 3)) (zI (zM (i:=3) nd rfl (Or.inl rfl) (pv 4)))))) (zI (zT (pv 2)))))),?_⟩
 refine⟨_,rfl,_,rfl,?_⟩
 refine⟨_,rfl,_,rfl,?_⟩
 have st:=Eh.start a b
 refine⟨fun m σ H'=>H'=H∧∃ (g s:Int)(lv:Option V),σ=[some (.int a),some (.int b),some (.int g),some (.int s),lv]∧0≤g∧0≤s∧Eh.G g s=Eh.G a b∧m=s.toNat,
  ⟨_,rfl,Eh.ab a,Eh.ab b,none,rfl,st.1,st.2.1,st.2.2,rfl⟩,?_⟩
 rintro m σ H' ⟨rfl,g,s,lv,rfl,g0,s0,e,rfl⟩
 refine⟨_,rfl,rfl,_,rfl,?_⟩
 refine jQ (fun c=>?_) (fun c=>?_)
 ·have ne:=vne c
  have t:=Eh.turnE g0 s0 e ne
  refine⟨_,fun _ _ h=>h,?_⟩
  refine⟨_,rfl,_,rfl,_,_,rfl,rfl,(show 0 < s by omega),?_⟩
  refine⟨_,rfl,?_⟩
  refine⟨_,rfl,?_⟩
  exact⟨(g%s).toNat,t.2.2,rfl,_,_,_,rfl,s0,t.1,t.2.1,rfl⟩
 ·have z:=nvne c
  refine⟨_,rfl,?_⟩
  rw[Eh.out g0 e z]
  exact q
def spDofA (K:PySem.W.Frag):Sp:=fun vs H Q _=>∃ (a:Int)(r:Addr)(l:List Int),vs=[.int a,.ref r]∧SqL K H r (l.map V.int)∧Q (.int (Vl.Dv a l)) H
theorem zCk (T:Txt K mg t_MOST_HOLES t_LEAD_BITS):Df P w K mg base 2 "divisor_of_all" ["first","others"] (spDofA K):=by
 have D_divisor:=zFl (P:=P) (w:=w) (base:=base) T
 refine T.d_divisor_of_all.ok jY (fun vs H Q E h=>?_) (fun f cdv A outer s H vs Q E hr h=>?_)
 ·obtain⟨_,_,_,rfl,_⟩:=h;rfl
 obtain⟨a,r,l,rfl,hl,q⟩:=h
 have nd:=jY.nd
 refine⟨_,(zC (zM (i:=2) nd rfl (Or.inl rfl) (zW call_abs (by rfl) T.b_abs L2.bi_abs (zA (pv 0) zH))) (zC (jA PassesOwn.never rfl (vZ (pv 1)) (zZ (i:=3) nd rfl (Or.inl rfl)) (zI (zM (i:=2) nd rfl (Or.inl rfl) (zQ D_divisor (hr.mono (by decide)) (by rfl) (zA (pv 2) (zA (pv 3) zH)))))) (zI (zT (pv 2))))),?_⟩
 refine⟨_,rfl,_,rfl,?_⟩
 refine⟨_,rfl,r,rfl,⟨_,hl⟩,?_⟩
 refine zAe (xs:=l.map V.int) (fun i σ H2=>H2=H∧∃ o:Option V,σ=[some (.int a),some (.ref r),some (.int (Vl.Dg (Eh.ab a) (l.take i))),o]) ⟨rfl,none,rfl⟩ (fun i σ H2 _ z=>by rw[z.1];exact hl) ?_ ?_
 ·rintro i x σ H2 hx ⟨rfl,o,rfl⟩
  obtain⟨u,rfl,hu⟩:=int_at hx
  refine⟨_,rfl,_,rfl,_,_,rfl,rfl,some (.int u),?_⟩
  rw[Pt.take_snoc hu,Vl.Dg_snoc];rfl
 ·rintro σ H2 ⟨rfl,o,rfl⟩
  rw[List.length_map,List.take_length]
  exact⟨_,rfl,q⟩
def spValue (K:PySem.W.Frag):Sp:=fun vs H Q _=>∃ (r:Addr)(a:List Int)(n B C:Nat)(b:Int),vs=[.ref r,.int b]∧(SqL K H r (a.map V.int)∨SqT K H r (a.map V.int))∧a.length=n∧1≤n∧n≤420∧b≠0∧b.natAbs < 2^C∧C≤9000∧Ld.Bd (2^B) a ∧
 ∀ t H' (m:Nat) ws c,zR H H'→H t=none→zEo H' t m ws c→Vl.Tp n (Ld.at' a) b m ws c→Ld.Bd (2^(8+B)) ws→Q (.ref t) H'
theorem ok_value (T:Txt K mg t_MOST_HOLES t_LEAD_BITS):Df P w K mg base 6 "value" ["load","bottom"] (spValue K):=by
 have D_rest:=ok_rest (P:=P) (w:=w) (base:=base) T
 have D_divisor_of_all:=zCk (P:=P) (w:=w) (base:=base) T
 refine T.d_value.ok sc_value (fun vs H Q E h=>?_) (fun f cdv A outer s H vs Q E hr h=>?_)
 ·obtain⟨_,_,_,_,_,_,rfl,_⟩:=h;rfl
 obtain⟨r,a,n,B,C,β,rfl,ha,la,n1,n2,β0,βC,C9,bd,q⟩:=h
 have nd:=sc_value.nd
 refine⟨_,(zC (vL (zN jR (pv 1) zG (zS _)) (zI jS) zX) (zC (zM (i:=2) nd rfl (Or.inl rfl) (vA vC (zQ D_rest (hr.mono (by decide)) (by rfl) (zA (pv 0) zH)) zG (fun _ _=>rfl))) (zC (zM (i:=3) nd rfl (Or.inl rfl) (zW zP (by rfl) T.b_len L2.vY (zA (pv 2) zH))) (zC (zM (i:=4) nd rfl (Or.inl rfl) (zQ D_divisor_of_all (hr.mono (by decide)) (by rfl) (zA (pv 3) (zA (vP (cap:=[]) (tgs:=["hole","weight"])  rfl rfl rfl (by decide +kernel) (by decide +kernel) (wT (by rfl)) wR wP (zAa (by decide) (by decide)) (pi_enum (by rfl) T.b_enumerate (zA (pv 2) zH)) (fun C s H fp=>⟨(zDa rfl (vJ (zZ (i:=0) (show (["hole","weight"]:List Str).Nodup by decide +kernel) rfl (Or.inl rfl) (Or.inr rfl)) (vJ (zZ (i:=1) (show (["hole","weight"]:List Str).Nodup by decide +kernel) rfl (Or.inl rfl) (Or.inr rfl)) zAp))),(pts_one (zN zEy (pv 1) zG (zS _))),(pv 0)⟩)) zH)))) (zC (zM (i:=5) nd rfl (Or.inl rfl) (pe_sliceZ (K:=K) rfl (pv 2) (po_some (pv 4)))) (zC (zM (i:=6) nd rfl (Or.inr rfl) (zQ D_divisor_of_all (hr.mono (by decide)) (by rfl) (zA (pv 1) (zA (pv 5) zH)))) (pss_mid (vL (zN zEs (pv 1) zG (zS _)) (zI (zM (i:=6) nd rfl (Or.inr rfl) (pe_un un_neg (pv 6)))) zX) (zI (zT (wI (zA (zO zY (pv 3) (pv 4)) (zA (zCh call_tuple_of (by rfl) T.b_tuple L2.bi_tuple (zA (vP (cap:=[("by",6)]) (tgs:=["weight"])  rfl rfl rfl (by decide +kernel) (by decide +kernel) (wT (by rfl)) (wA rfl wR) (v6 ⟨rfl,Or.inl rfl,Or.inl rfl,_,rfl⟩ wP) (vQ (by decide)) (vZ (pv 5)) (fun C s H fp=>⟨(zZ (i:=1) (show (["by","weight"]:List Str).Nodup by decide +kernel) rfl (Or.inl rfl) (Or.inr rfl)),jU,(zO op_fdivE (pv 1) (pv 0))⟩)) zH)) (zA (zO op_fdivE (pv 1) (pv 6)) zH))))))))))))),?_⟩
 refine⟨_,rfl,rfl,_,rfl,?_⟩
 refine jQ (fun c=>absurd (vint c) β0) (fun c=>?_)
 refine⟨_,rfl,r,a,n,rfl,ha,la,n1,n2,fun tA leA roA HA bA psA lA rowsA smA ftA flA frA htA hbA lbA ldsA bvA _ _=>⟨tA,_,_,_,rfl,rfl,SqT.of htA,(show atI [V.ref leA,V.ref roA] 0=some (.ref leA) from rfl),?_⟩⟩
 have bv':∀ x,Ld.at' bA x=Vl.rst n (Ld.at' a) x:=fun x=>by rw[Vl.jJ ldsA];exact bvA x
 obtain⟨s0,m,es,s1,m1,en,dn,tl⟩:=Vl.told n1 la lbA bv' β0
 have sn:s0≤n:=by rw[en];exact Nat.le_mul_of_pos_left _ m1
 refine⟨_,rfl,leA,_,rfl,.inl (SqL.of hbA),?_⟩
 rw[zEw lbA]
 refine⟨_,rfl,_,rfl,leA,rfl,⟨_,SqL.of hbA⟩,?_⟩
 refine comp_enum (K:=K) (xs:=bA.map V.int) (fun i ys H2=>zR HA H2∧ys=(Vl.hs bA i).map V.int) ⟨zR.refl _,rfl⟩ (fun i ys H2 _ z=>z.1.seq (SqL.of hbA))
  (fun i ys H2 hi z=>by rw[z.2,List.length_map];have:=Vl.hs_len bA i;rw[List.length_map] at hi;exact zAg (by omega)) ?_ ?_
 ·rintro i x ys H2 p hx ⟨sm,rfl⟩ hp
  obtain⟨u,rfl,hu⟩:=int_at hx
  have eu:Ld.at' bA i=u:=Ld.at_nat hu
  refine⟨p,_,rfl,SqT.of zD,rfl,_,_,rfl,_,_,rfl,rfl,?_⟩
  refine⟨_,rfl,rfl,_,rfl,?_⟩
  refine jQ (fun c=>?_) (fun c=>?_)
  ·refine⟨_,rfl,zK sm hp,?_⟩
   rw[Vl.hs_succ,eu,if_neg (vne c),List.map_append];rfl
  ·refine⟨zK sm hp,?_⟩
   rw[Vl.hs_succ,eu,if_pos (nvne c),List.append_nil]
 rintro ys H2 ⟨sm2,rfl⟩ dd hdd
 rw[zEw lbA]
 refine⟨_,dd,_,rfl,SqL.of zD,?_⟩
 rw[es]
 have smB:zR HA (upd H2 dd (.lst ((Vl.hs bA n).map V.int))):=zK sm2 hdd
 generalize upd H2 dd (.lst ((Vl.hs bA n).map V.int))=HB at smB ⊢
 refine⟨_,rfl,_,rfl,_,rfl,leA,bA,n,m,s0,rfl,rfl,SqL.of (smB _ _ hbA),lbA,s1,m1,en,fun wq hwq=>?_⟩
 have eW:((List.range m).map fun (t:Nat)=>Ld.at' bA (((0:Nat):Int)+(t:Int)*s0))=Vl.wts bA m s0:=rfl
 rw[eW]
 have smC:zR HA (upd HB wq (.lst ((Vl.wts bA m s0).map V.int))):=zK smB hwq
 have hwC:upd HB wq (.lst ((Vl.wts bA m s0).map V.int)) wq=some (.lst ((Vl.wts bA m s0).map V.int)):=zD
 refine⟨_,rfl,_,rfl,β,wq,Vl.wts bA m s0,rfl,SqL.of hwC,?_⟩
 generalize upd HB wq (.lst ((Vl.wts bA m s0).map V.int))=HC at smC hwC ⊢
 obtain⟨hh,eh⟩:∃ h:Int,h=if β < 0 then -Vl.Dv β (Vl.wts bA m s0) else Vl.Dv β (Vl.wts bA m s0):=⟨_,rfl⟩
 obtain⟨h0,hβ,hw,hle,tp⟩:=tl hh eh
 refine⟨fun σ H'=>H'=HC∧σ=[some (.ref r),some (.int β),some (.ref leA),some (.int n),some (.int s0),some (.ref wq),some (.int hh)],?_,?_⟩
 ·refine⟨_,rfl,_,_,rfl,rfl,_,rfl,?_⟩
  refine jQ (fun c=>?_) (fun c=>?_)
  ·refine⟨_,rfl,_,rfl,rfl,?_⟩
   rw[eh,if_pos (dec c)];rfl
  ·refine⟨rfl,?_⟩
   rw[eh,if_neg (ndec c)];rfl
 rintro σ H' ⟨rfl,rfl⟩
 refine⟨_,rfl,_,rfl,_,_,rfl,rfl,zU (by omega) (by omega),?_⟩
 dsimp only
 rw[dn]
 refine⟨_,rfl,wq,rfl,⟨_,SqL.of hwC⟩,?_⟩
 refine wG (K:=K) (xs:=(Vl.wts bA m s0).map V.int) (fun i ys H2=>H2=H'∧ys=(((Vl.wts bA m s0).map (· / hh)).take i).map V.int) ⟨rfl,by simp⟩ (fun i ys H2 _ z=>by rw[z.1];exact SqL.of hwC)
  (fun i ys H2 hi z=>by rw[z.2];simp only [List.length_map,List.length_take,Vl.zCr] at hi ⊢;have:m≤n:=(by rw[en];exact Nat.le_mul_of_pos_right _ s1);exact zAg (by omega)) ?_ ?_
 ·rintro i x ys H2 hx ⟨rfl,rfl⟩
  obtain⟨u,rfl,hu⟩:=int_at hx
  refine⟨_,rfl,_,rfl,_,_,rfl,rfl,divE_of h0 (hw _ (List.mem_of_getElem? hu)) (Nat.lt_of_le_of_lt hle βC) C9,rfl,?_⟩
  rw[j9 (v:=u/hh)]
  rw[List.getElem?_map,hu];rfl
 rintro ys H2 ⟨rfl,rfl⟩ dt hdt
 rw[zAw (by simp)]
 refine⟨dt,_,rfl,.inl ⟨SqL.of zD,fun u hu=>?_⟩⟩
 have smD:zR H2 (upd (upd H2 dt (.lst (((Vl.wts bA m s0).map (· / hh)).map V.int))) u (.tup (((Vl.wts bA m s0).map (· / hh)).map V.int))):=zK (zK (zR.refl _) hdt) hu
 have huD:upd (upd H2 dt (.lst (((Vl.wts bA m s0).map (· / hh)).map V.int))) u (.tup (((Vl.wts bA m s0).map (· / hh)).map V.int)) u=some (.tup (((Vl.wts bA m s0).map (· / hh)).map V.int)):=zD
 generalize upd (upd H2 dt (.lst (((Vl.wts bA m s0).map (· / hh)).map V.int))) u (.tup (((Vl.wts bA m s0).map (· / hh)).map V.int))=HD at smD huD ⊢
 refine⟨_,rfl,_,rfl,_,_,rfl,rfl,divE_of h0 hβ (Nat.lt_of_le_of_lt hle βC) C9,(by show 3≤sizeLine;decide),fun t ht=>?_⟩
 have smE:=(smA.trans smC).trans smD
 exact q t _ m _ _ (zK smE ht) (smE.free ht) ⟨u,zD,(zL (zJ huD ht)).trans huD⟩ tp (Vl.told_bd ldsA n2 bd bvA hh)
def spTurnV (K:PySem.W.Frag):Sp:=fun vs H Q _=>∃ (n:Nat)(h:Int),vs=[.int n,.int h]∧1≤n∧n≤420∧∀ t H' (m:Nat) ws c,zR H H'→zEo H' t m ws c→Vl.Tp n (Ld.at' (Ld.hung n h 1)) 1 m ws c→Ld.Bd (2^8) ws→Q (.ref t) H'
theorem ok_turn (T:Txt K mg t_MOST_HOLES t_LEAD_BITS):Df P w K mg base 7 "turn" ["n","hole"] (spTurnV K):=by
 have D_hung:=ok_hung (P:=P) (w:=w) (base:=base) T
 have D_value:=ok_value (P:=P) (w:=w) (base:=base) T
 refine T.d_turn.ok sc_turn (fun vs H Q E h=>?_) (fun f cdv A outer s H vs Q E hr h=>?_)
 ·obtain⟨_,_,rfl,_⟩:=h;rfl
 obtain⟨n,h,rfl,n1,n2,q⟩:=h
 have nd:=sc_turn.nd
 refine⟨_,(zI (zT (zQ D_value (hr.mono (by decide)) (by rfl) (zA (zQ D_hung (hr.mono (by decide)) (by rfl) (zA (pv 0) (zA (pv 1) (zA zG zH)))) (zA zG zH))))),?_⟩
 refine⟨_,rfl,_,rfl,n,h,1,rfl,n1,n2,fun r H1 sm1 f1 h1=>?_⟩
 refine⟨r,_,n,0,1,1,rfl,.inl (SqL.of h1),Ld.hung_len ..,n1,n2,by decide,by decide,by decide,Ld.bd_hung (by decide),fun t H2 m ws c sm2 f2 v tp bd=>?_⟩
 exact q t H2 m ws c (sm1.trans sm2) v tp bd
def spWholeV:Sp:=fun vs H Q _=>∃ i:Int,vs=[.int i]∧∀ r H',zR H H'→H r=none→zEo H' r 1 [i] 1→Q (.ref r) H'
theorem ok_whole (T:Txt K mg t_MOST_HOLES t_LEAD_BITS):Df P w K mg base 1 "whole" ["many"] spWholeV:=by
 refine T.d_whole.ok sc_whole (fun vs H Q E h=>?_) (fun f cdv A outer s H vs Q E hr h=>?_)
 ·obtain⟨_,rfl,_⟩:=h;rfl
 obtain⟨i,rfl,q⟩:=h
 have nd:=sc_whole.nd
 refine⟨_,(zI (zT (wI (zA zG (zA (wI (zA (pv 0) zH)) (zA zG zH)))))),?_⟩
 refine⟨_,rfl,(by show 1≤sizeLine;decide),fun u hu=>⟨(by show 3≤sizeLine;decide),fun t ht=>?_⟩⟩
 have sm:zR H (upd H u (.tup [V.int i])):=zK (zR.refl _) hu
 exact q t _ (zK sm ht) (sm.free ht) ⟨u,zD,(zL (zJ zD ht)).trans zD⟩
def spScaled (K:PySem.W.Frag):Sp:=fun vs H Q _=>∃ (r:Addr)(a:List Int)(m:Int),vs=[.ref r,.int m]∧SqL K H r (a.map V.int)∧a.length≤420∧(∀ x∈a,IntMulOk x m)∧∀ t H',zR H H'→H t=none→H' t=some (.lst ((Ld.scaled a m).map V.int))→Q (.ref t) H'
theorem ok_scaled (T:Txt K mg t_MOST_HOLES t_LEAD_BITS):Df P w K mg base 1 "scaled" ["load","many"] (spScaled K):=by
 refine T.d_scaled.ok sc_scaled (fun vs H Q E h=>?_) (fun f cdv A outer s H vs Q E hr h=>?_)
 ·obtain⟨_,_,_,rfl,_⟩:=h;rfl
 obtain⟨r,a,m,rfl,ha,hz,hm,q⟩:=h
 have nd:=sc_scaled.nd
 refine⟨_,(zI (zT (vP (cap:=[("many",1)]) (tgs:=["weight"])  rfl rfl rfl (by decide +kernel) (by decide +kernel) (wT (by rfl)) (wA rfl wR) (v6 ⟨rfl,Or.inl rfl,Or.inl rfl,_,rfl⟩ wP) (vQ (by decide)) (vZ (pv 0)) (fun C s H fp=>⟨(zZ (i:=1) (show (["many","weight"]:List Str).Nodup by decide +kernel) rfl (Or.inl rfl) (Or.inr rfl)),jU,(zO vO (pv 1) (pv 0))⟩)))),?_⟩
 refine⟨_,rfl,r,rfl,⟨_,ha⟩,?_⟩
 refine wG (K:=K) (xs:=a.map V.int) (fun i rs H2=>H2=H∧rs=((Ld.scaled a m).take i).map V.int) ⟨rfl,by simp⟩ (fun i rs H2 _ z=>by rw[z.1];exact ha)
  (fun i rs H2 hi z=>by rw[List.length_map] at hi;rw[z.2];simp only [List.length_map,List.length_take];exact zAg (by omega)) ?_ ?_
 ·rintro i x rs H2 hx ⟨rfl,rfl⟩
  obtain⟨u,rfl,hu⟩:=int_at hx
  refine⟨_,rfl,_,rfl,_,_,rfl,rfl,hm u (List.mem_of_getElem? hu),rfl,?_⟩
  rw[j9 (v:=u*m)]
  unfold Ld.scaled
  rw[List.getElem?_map,hu];rfl
 ·rintro rs H2 ⟨rfl,rfl⟩ D hD
  rw[zAw (by rw[Ld.wO,List.length_map])]
  exact q D _ (zK (zR.refl _) hD) hD zD
def spFit (K:PySem.W.Frag):Sp:=fun vs H Q _=>∃ (a b:Addr)(xs ys:List V),vs=[.ref a,.ref b]∧SqL K H a xs∧SqL K H b ys∧xs.length=ys.length∧Q .non H
theorem ok_check_fit (T:Txt K mg t_MOST_HOLES t_LEAD_BITS):Df P w K mg base 1 "check_fit" ["one","other"] (spFit K):=by
 refine T.d_check_fit.ok zCx (fun vs H Q E h=>?_) (fun f cdv A outer s H vs Q E hr h=>?_)
 ·obtain⟨_,_,_,_,rfl,_⟩:=h;rfl
 obtain⟨a,b,xs,ys,rfl,ha,hb,e,q⟩:=h
 have nd:=zCx.nd
 refine⟨_,(zI (vL (zN zEy (zW zP (by rfl) T.b_len L2.vY (zA (pv 0) zH)) (zW zP (by rfl) T.b_len L2.vY (zA (pv 1) zH)) (zS _)) (zI jS) zX)),?_⟩
 refine⟨_,rfl,a,_,rfl,.inl ha,_,rfl,b,_,rfl,.inl hb,rfl,_,rfl,?_⟩
 refine jQ (fun c=>?_) (fun c=>q)
 exact vne c (by rw[e])
def spPlus (K:PySem.W.Frag):Sp:=fun vs H Q _=>∃ (r s:Addr)(a b:List Int),vs=[.ref r,.ref s]∧SqL K H r (a.map V.int)∧SqL K H s (b.map V.int)∧a.length=b.length∧a.length≤420∧∀ t H',zR H H'→H t=none→H' t=some (.lst ((Ld.plus a b).map V.int))→Q (.ref t) H'
theorem ok_plus (T:Txt K mg t_MOST_HOLES t_LEAD_BITS):Df P w K mg base 2 "plus" ["one","other"] (spPlus K):=by
 have D_check_fit:=ok_check_fit (P:=P) (w:=w) (base:=base) T
 refine T.d_plus.ok sc_plus (fun vs H Q E h=>?_) (fun f cdv A outer s H vs Q E hr h=>?_)
 ·obtain⟨_,_,_,_,rfl,_⟩:=h;rfl
 obtain⟨r,s',a,b,rfl,ha,hb,e,hz,q⟩:=h
 have nd:=sc_plus.nd
 refine⟨_,(zC (jK (zQ D_check_fit (hr.mono (by decide)) (by rfl) (zA (pv 0) (zA (pv 1) zH)))) (zI (zT (vP (cap:=[]) (tgs:=["weight","more"])  rfl rfl rfl (by decide +kernel) (by decide +kernel) (wT (by rfl)) wR wP (zAa (by decide) (by decide)) (pi_zip (by rfl) T.b_zip (zA (pv 0) (zA (pv 1) zH))) (fun C s H fp=>⟨(zDa rfl (vJ (zZ (i:=0) (show (["weight","more"]:List Str).Nodup by decide +kernel) rfl (Or.inl rfl) (Or.inr rfl)) (vJ (zZ (i:=1) (show (["weight","more"]:List Str).Nodup by decide +kernel) rfl (Or.inl rfl) (Or.inr rfl)) zAp))),jU,(zO vX (pv 0) (pv 1))⟩))))),?_⟩
 refine⟨_,rfl,_,rfl,r,s',_,_,rfl,ha,hb,by rw[List.length_map,List.length_map,e],?_⟩
 refine⟨_,rfl,_,rfl,r,s',rfl,⟨_,ha⟩,⟨_,hb⟩,?_⟩
 have pl:=Ld.zAf e
 refine comp_zip (K:=K) (xs:=a.map V.int) (ys:=b.map V.int) (by rw[List.length_map,List.length_map,e]) (fun i rs H2=>zR H H2∧rs=((Ld.plus a b).take i).map V.int) ⟨zR.refl H,by simp⟩ (fun i rs H2 _ z=>⟨z.1.seq ha,z.1.seq hb⟩)
  (fun i rs H2 hi z=>by rw[List.length_map] at hi;rw[z.2];simp only [List.length_map,List.length_take];exact zAg (by omega)) ?_ ?_
 ·rintro i x y rs H2 p hx hy ⟨sm,rfl⟩ hp
  obtain⟨u,rfl,hu⟩:=int_at hx
  obtain⟨v,rfl,hv⟩:=int_at hy
  refine⟨p,_,rfl,SqT.of zD,rfl,_,_,rfl,_,_,rfl,rfl,?_⟩
  refine⟨_,rfl,_,rfl,_,_,rfl,rfl,zK sm hp,?_⟩
  rw[j9 (v:=u+v)]
  unfold Ld.plus
  rw[List.getElem?_zipWith,hu,hv]
 ·rintro rs H2 ⟨sm,rfl⟩ D hD
  rw[zAw (by rw[pl,List.length_map])]
  exact q D _ (zK sm hD) (sm.free hD) zD
def spFiner (K:PySem.W.Frag):Sp:=fun vs H Q _=>∃ (r:Addr)(a:List Int)(m q:Nat),vs=[.ref r,.int q]∧SqT K H r (a.map V.int)∧a.length=m∧1≤m∧1≤q∧q*m≤420∧∀ t H',zR H H'→H t=none→H' t=some (.lst ((Ld.fin a q).map V.int))→Q (.ref t) H'
theorem ok_finer (T:Txt K mg t_MOST_HOLES t_LEAD_BITS):Df P w K mg base 1 "finer" ["load","many"] (spFiner K):=by
 refine T.d_finer.ok sc_finer (fun vs H Q E h=>?_) (fun f cdv A outer s H vs Q E hr h=>?_)
 ·obtain⟨_,_,_,_,rfl,_⟩:=h;rfl
 obtain⟨r,a,m,q,rfl,ha,la,m1,q1,N2,k⟩:=h
 have nd:=sc_finer.nd
 have qle:q≤q*m:=Nat.le_mul_of_pos_right _ m1
 obtain⟨N,hN⟩:∃ N,N=q*m:=⟨_,rfl⟩
 have N1:1≤N:=by rw[hN];exact Nat.mul_pos q1 m1
 refine⟨_,(zC (zM (i:=2) nd rfl (Or.inl rfl) (zO vO (pv 1) (zW zP (by rfl) T.b_len L2.vY (zA (pv 0) zH)))) (zC (vL (zN zEx (pv 2) (pe_glob (v:=.int 420) (by rfl) T.g_MOST_HOLES ⟨_,rfl⟩) (zS _)) (zI jS) zX) (zC (zM (i:=3) nd rfl (Or.inl rfl) (zO op_rep (wE (zA zG zH)) (pv 2))) (zC (jA PassesOwn.never rfl (pi_enumT (by rfl) T.b_enumerate (zA (pv 0) zH)) (zDa rfl (vJ (zZ (i:=4) nd rfl (Or.inl rfl)) (vJ (zZ (i:=5) nd rfl (Or.inl rfl)) zAp))) (zI (zDd (pv 5) (zCu (pv 3) (zO vO (pv 1) (pv 4)) set_list)))) (zI (zT (pv 3))))))),?_⟩
 refine⟨_,rfl,_,rfl,r,_,rfl,.inr ha,_,_,rfl,rfl,vF (by omega) (by omega),?_⟩
 dsimp only
 rw[zEw la,← Int.natCast_mul,← hN]
 refine⟨_,rfl,_,_,rfl,rfl,_,rfl,?_⟩
 refine jQ (fun c=>absurd (dec c) (by omega)) (fun c=>?_)
 refine⟨(by show 1≤sizeLine;decide),fun l hl=>⟨_,rfl,l,_,_,rfl,rfl,zD,by omega,by omega,(by show 1*_≤_;exact size2 (by omega)),fun du hdu=>?_⟩⟩
 rw[rep0]
 have ldu:l≠du:=zJ zD hdu
 have du0:H du=none:=by rwa [zL (Ne.symm ldu)] at hdu
 have sm0:zR H (upd (upd H l (.lst [V.int 0])) du (.lst ((List.replicate N (0:Int)).map V.int))):=vE (vE (zR.refl H) hl) du0
 have hd0:upd (upd H l (.lst [V.int 0])) du (.lst ((List.replicate N (0:Int)).map V.int)) du=some (.lst ((List.replicate N (0:Int)).map V.int)):=zD
 generalize upd (upd H l (.lst [V.int 0])) du (.lst ((List.replicate N (0:Int)).map V.int))=H0 at sm0 hd0 ⊢
 refine⟨_,rfl,r,rfl,⟨_,sm0.seqT ha⟩,?_⟩
 refine for_enumT (K:=K) (xs:=a.map V.int) (fun i σ H2=>zR H H2∧∃ (o:List Int)(o1 o2:Option V),σ=[some (.ref r),some (.int q),some (.int N),some (.ref du),o1,o2]∧H2 du=some (.lst (o.map V.int))∧o.length=N∧(∀ k:Nat,k < i→Ld.at' o ((q:Int)*k)=Ld.at' a k)∧(∀ x:Int,(∀ k:Nat,k < i→x%N≠q*k)→Ld.at' o x=0))
  ⟨sm0,List.replicate N 0,none,none,rfl,hd0,by simp,fun k hk=>by omega,fun x _=>Ld.zEm N x⟩ (fun i σ H2 _ z=>z.1.seqT ha) ?_ ?_
 ·rintro i x σ H2 p hx ⟨sm,o,o1,o2,rfl,hd,ol,inv1,inv2⟩ hp
  obtain⟨u,rfl,hu⟩:=int_at hx
  have eu:Ld.at' a i=u:=Ld.at_nat hu
  have hi:i < m:=by rw[← la];exact (List.getElem?_eq_some_iff.mp hu).1
  have qi:((q:Int)*i)%N=q*i:=by
   refine Int.emod_eq_of_lt (Int.mul_nonneg (by omega) (by omega)) ?_
   rw[hN,Int.natCast_mul]
   exact Int.mul_lt_mul_of_pos_left (by omega) (by omega)
  refine⟨p,_,rfl,SqT.of zD,rfl,_,_,rfl,_,_,rfl,rfl,?_⟩
  refine⟨_,rfl,_,rfl,_,rfl,_,rfl,_,_,rfl,rfl,vF (by omega) (by omega),du,_,_,_,rfl,rfl,(zL (zJ hd hp)).trans hd,ixN_modE (zEw ol) N1 qi,?_⟩
  rw[set_int,← eu]
  have ff:=Ld.ffill1 ol hN q1 hi inv1 inv2
  exact⟨vE (zK sm hp) du0,_,_,_,rfl,zD,by rw[List.length_set,ol],ff.1,ff.2⟩
 ·rintro σ H2 ⟨sm,o,o1,o2,rfl,hd,ol,inv1,inv2⟩
  rw[List.length_map,la] at inv1 inv2
  subst hN
  rw[Ld.ffill_end la m1 q1 ol inv1 inv2] at hd
  exact⟨_,rfl,k du H2 sm du0 hd⟩
def spOn:Sp:=fun vs H Q _=>∃ (t:Addr)(m q:Nat)(ws:List Int)(c:Int),vs=[.ref t,.int ((q*m:Nat):Int)]∧zEo H t m ws c∧ws.length=m∧1≤m∧1≤q∧q*m≤420∧∀ r H',zR H H'→H r=none→H' r=some (.lst ((Ld.fin ws q).map V.int))→Q (.ref r) H'
theorem ok_on (T:Txt K mg t_MOST_HOLES t_LEAD_BITS):Df P w K mg base 2 "on" ["x","n"] spOn:=by
 have D_finer:=ok_finer (P:=P) (w:=w) (base:=base) T
 refine T.d_on.ok sc_on (fun vs H Q E h=>?_) (fun f cdv A outer s H vs Q E hr h=>?_)
 ·obtain⟨_,_,_,_,_,rfl,_⟩:=h;rfl
 obtain⟨t,m,q,ws,cc,rfl,⟨u,ht,hu⟩,lw,m1,q1,N2,k⟩:=h
 have nd:=sc_on.nd
 have mle:=Nat.le_mul_of_pos_left m q1
 have dq:((q*m:Nat):Int)/(m:Int)=q:=by rw[Int.natCast_mul];exact Int.mul_ediv_cancel _ (by omega)
 have dm:((q*m:Nat):Int)%(m:Int)=0:=by rw[Int.natCast_mul];exact Int.mul_emod_left _ _
 refine⟨_,(zC (vL (zN zEy (zO vK (pv 1) (vA vC (pv 0) zG (fun _ _=>rfl))) zG (zS _)) (zI jS) zX) (zI (zT (zQ D_finer (hr.mono (by decide)) (by rfl) (zA (vA vC (pv 0) zG (fun _ _=>rfl)) (zA (zO zY (pv 1) (vA vC (pv 0) zG (fun _ _=>rfl))) zH)))))),?_⟩
 refine⟨_,rfl,_,rfl,t,_,_,_,rfl,rfl,SqT.of ht,at3_0 _ _ _,_,_,rfl,rfl,(show (0:Int) < (m:Int) by omega),rfl,_,rfl,iteNS (congrArg V.int dm) ?_⟩
 refine⟨_,rfl,t,_,_,_,rfl,rfl,SqT.of ht,at3_1 _ _ _,_,rfl,_,rfl,t,_,_,_,rfl,rfl,SqT.of ht,at3_0 _ _ _,_,_,rfl,rfl,zU (by omega) (by omega),?_⟩
 dsimp only
 rw[dq]
 exact⟨u,ws,m,q,rfl,SqT.of hu,lw,m1,q1,N2,k⟩
def spJoint:Sp:=fun vs H Q _=>∃ m m':Nat,vs=[.int m,.int m']∧1≤m∧1≤m'∧m≤420∧m'≤420∧Q (.int (Nat.lcm m m':Nat)) H
theorem ok_joint (T:Txt K mg t_MOST_HOLES t_LEAD_BITS):Df P w K mg base 2 "joint" ["one","other"] spJoint:=by
 have D_divisor:=zFl (P:=P) (w:=w) (base:=base) T
 refine T.d_joint.ok sc_joint (fun vs H Q E h=>?_) (fun f cdv A outer s H vs Q E hr h=>?_)
 ·obtain⟨_,_,rfl,_⟩:=h;rfl
 obtain⟨m,m',rfl,m1,m1',m2,m2',q⟩:=h
 have nd:=sc_joint.nd
 have g0:0 < Eh.G m m':=by unfold Eh.G;have:0 < Int.gcd (m:Int) m':=Nat.gcd_pos_of_pos_left _ m1;omega
 have g1:Eh.G m m'≤m:=Int.le_of_dvd (by omega) (Int.gcd_dvd_left ..)
 have d0:=Int.ediv_nonneg (show (0:Int)≤m by omega) (show 0≤Eh.G m m' by omega)
 have d1:=Int.ediv_le_self (Eh.G m m') (show (0:Int)≤m by omega)
 refine⟨_,(zI (zT (zO vO (zO zY (pv 0) (zQ D_divisor (hr.mono (by decide)) (by rfl) (zA (pv 0) (zA (pv 1) zH)))) (pv 1)))),?_⟩
 refine⟨_,rfl,_,rfl,_,rfl,_,_,rfl,_,_,rfl,rfl,zU g0 (by omega),_,rfl,_,_,rfl,rfl,vF (by omega) (by omega),?_⟩
 show Q (.int ((m:Int)/Eh.G m m'*m')) H
 rw[Vl.joint_eq]
 exact q
def spJW:Sp:=fun vs H Q _=>∃ (t t':Addr)(m m':Nat)(ws ws':List Int)(c c':Int),vs=[.ref t,.ref t']∧zEo H t m ws c∧zEo H t' m' ws' c'∧1≤m∧1≤m'∧m≤420∧m'≤420∧Nat.lcm m m'≤420∧Q (.int (Nat.lcm m m':Nat)) H
theorem zEq (T:Txt K mg t_MOST_HOLES t_LEAD_BITS):Df P w K mg base 3 "joint_wheel" ["x","y"] spJW:=by
 have D_joint:=ok_joint (P:=P) (w:=w) (base:=base) T
 refine T.d_joint_wheel.ok zBm (fun vs H Q E h=>?_) (fun f cdv A outer s H vs Q E hr h=>?_)
 ·obtain⟨_,_,_,_,_,_,_,_,rfl,_⟩:=h;rfl
 obtain⟨t,t',m,m',ws,ws',c,c',rfl,⟨u,ht,hu⟩,⟨u',ht',hu'⟩,m1,m1',m2,m2',l2,q⟩:=h
 have nd:=zBm.nd
 refine⟨_,(zC (zM (i:=2) nd rfl (Or.inl rfl) (zQ D_joint (hr.mono (by decide)) (by rfl) (zA (vA vC (pv 0) zG (fun _ _=>rfl)) (zA (vA vC (pv 1) zG (fun _ _=>rfl)) zH)))) (zC (vL (zN zEx (pv 2) (pe_glob (v:=.int 420) (by rfl) T.g_MOST_HOLES ⟨_,rfl⟩) (zS _)) (zI jS) zX) (zI (zT (pv 2))))),?_⟩
 refine⟨_,rfl,t,_,_,_,rfl,rfl,SqT.of ht,at3_0 _ _ _,_,rfl,t',_,_,_,rfl,rfl,SqT.of ht',at3_0 _ _ _,m,m',rfl,m1,m1',m2,m2',?_⟩
 refine⟨_,rfl,_,_,rfl,rfl,_,rfl,?_⟩
 refine jQ (fun c=>absurd (dec c) (by omega)) (fun c=>?_)
 exact⟨_,rfl,q⟩
def spRaised:Sp:=fun vs H Q _=>∃ (t t':Addr)(m q B C:Nat)(m':Int)(ws ws':List Int)(c c':Int),vs=[.ref t,.ref t',.int ((q*m:Nat):Int)]∧zEo H t m ws c∧zEo H t' m' ws' c'∧ws.length=m∧1≤m∧1≤q∧q*m≤420∧Ld.Bd (2^B) ws∧c'.natAbs≤2^C∧B+C≤1000000 ∧
 ∀ r H',zR H H'→H r=none→H' r=some (.lst ((Ld.scaled (Ld.fin ws q) c').map V.int))→Q (.ref r) H'
theorem ok_raised (T:Txt K mg t_MOST_HOLES t_LEAD_BITS):Df P w K mg base 3 "raised" ["x","y","n"] spRaised:=by
 have D_on:=ok_on (P:=P) (w:=w) (base:=base) T
 have D_scaled:=ok_scaled (P:=P) (w:=w) (base:=base) T
 refine T.d_raised.ok sc_raised (fun vs H Q E h=>?_) (fun f cdv A outer s H vs Q E hr h=>?_)
 ·obtain⟨_,_,_,_,_,_,_,_,_,_,_,rfl,_⟩:=h;rfl
 obtain⟨t,t',m,q,B,C,m',ws,ws',c,c',rfl,vt,vt',lw,m1,q1,N2,bw,bc,BC,k⟩:=h
 have nd:=sc_raised.nd
 refine⟨_,(zI (zT (zQ D_scaled (hr.mono (by decide)) (by rfl) (zA (zQ D_on (hr.mono (by decide)) (by rfl) (zA (pv 0) (zA (pv 2) zH))) (zA (vA vC (pv 1) zG (fun _ _=>rfl)) zH))))),?_⟩
 refine⟨_,rfl,_,rfl,t,m,q,ws,c,rfl,vt,lw,m1,q1,N2,fun r1 H1 sm1 f1 h1=>?_⟩
 obtain⟨u',ht',hu'⟩:=vt'.same sm1
 have bf:Ld.Bd (2^B) (Ld.fin ws q):=Ld.bd_fin bw (by rw[lw];exact m1) q1
 have lf:(Ld.fin ws q).length=q*m:=by rw[Ld.zAu,lw]
 refine⟨_,rfl,t',_,_,_,rfl,rfl,SqT.of ht',at3_2 _ _ _,r1,_,_,rfl,SqL.of h1,by rw[lf];exact N2,fun x hx=>mulB (bf x hx) bc BC,fun r2 H2 sm2 f2 h2=>?_⟩
 exact k r2 H2 (sm1.trans sm2) (sm1.free f2) h2
def spAdded:Sp:=fun vs H Q _=>∃ (t t':Addr)(J m m' B C:Nat)(ws ws':List Int)(c c':Int)(f g:Int→Int)(b d:Int),vs=[.ref t,.ref t']∧zEo H t m ws c∧zEo H t' m' ws' c'∧Vl.Tp J f b m ws c∧Vl.Tp J g d m' ws' c'∧1≤J∧J≤420∧b≠0∧d≠0∧Ld.Bd (2^B) ws∧Ld.Bd (2^B) ws'∧c.natAbs < 2^C∧c'.natAbs < 2^C∧B+C≤1000000∧C+C≤9000 ∧
 ∀ r H' (M:Nat) W D,zR H H'→H r=none→zEo H' r M W D→Vl.Tp J (fun x=>d*f x+b*g x) (b*d) M W D→Ld.Bd (2^(8+(B+C+1))) W→D.natAbs < 2^(C+C)→Vl.Tp (Nat.lcm m m') (Ld.at' (Ld.plus (Ld.scaled (Ld.fin ws (Nat.lcm m m'/m)) c') (Ld.scaled (Ld.fin ws' (Nat.lcm m m'/m')) c))) (c*c') M W D→Q (.ref r) H'
theorem ok_added (T:Txt K mg t_MOST_HOLES t_LEAD_BITS):Df P w K mg base 7 "added" ["x","y"] spAdded:=by
 have D_joint_wheel:=zEq (P:=P) (w:=w) (base:=base) T
 have D_raised:=ok_raised (P:=P) (w:=w) (base:=base) T
 have D_plus:=ok_plus (P:=P) (w:=w) (base:=base) T
 have D_value:=ok_value (P:=P) (w:=w) (base:=base) T
 refine T.d_added.ok sc_added (fun vs H Q E h=>?_) (fun f cdv A outer s H vs Q E hr h=>?_)
 ·obtain⟨_,_,_,_,_,_,_,_,_,_,_,_,_,_,_,rfl,_⟩:=h;rfl
 obtain⟨t,t',J,m,m',B,C,ws,ws',c,c',f',g',b,d,rfl,vt,vt',tp,tp',J1,J2,b0,d0,bw,bw',cC,cC',BC,CC,k⟩:=h
 have nd:=sc_added.nd
 obtain⟨l,p,q,q',el0,l1,p1,q1,q1',el,el',eJ⟩:=Vl.lcm_of J1 tp.mn tp'.mn
 have l2:l≤420:=Nat.le_trans (by rw[eJ];exact Nat.le_mul_of_pos_left l p1) J2
 have m1:=tp.pln.n1
 have m1':=tp'.pln.n1
 have c1:=tp.pln.c1
 have c1':=tp'.pln.c1
 have ml:m≤l:=by rw[el];exact Nat.le_mul_of_pos_left m q1
 have ml':m'≤l:=by rw[el'];exact Nat.le_mul_of_pos_left m' q1'
 refine⟨_,(zC (zM (i:=2) nd rfl (Or.inl rfl) (zQ D_joint_wheel (hr.mono (by decide)) (by rfl) (zA (pv 0) (zA (pv 1) zH)))) (zI (zT (zQ D_value (hr.mono (by decide)) (by rfl) (zA (zQ D_plus (hr.mono (by decide)) (by rfl) (zA (zQ D_raised (hr.mono (by decide)) (by rfl) (zA (pv 0) (zA (pv 1) (zA (pv 2) zH)))) (zA (zQ D_raised (hr.mono (by decide)) (by rfl) (zA (pv 1) (zA (pv 0) (zA (pv 2) zH)))) zH))) (zA (zO vO (vA vC (pv 0) zG (fun _ _=>rfl)) (vA vC (pv 1) zG (fun _ _=>rfl))) zH)))))),?_⟩
 refine⟨_,rfl,_,rfl,t,t',m,m',ws,ws',c,c',rfl,vt,vt',m1,m1',by omega,by omega,by omega,?_⟩
 rw[el0]
 refine⟨_,rfl,_,rfl,_,rfl,t,t',m,q,B,C,m',ws,ws',c,c',by rw[← el];rfl,vt,vt',tp.len,m1,q1,by omega,bw,Nat.le_of_lt cC',BC,fun r1 H1 sm1 f1 h1=>?_⟩
 refine⟨_,rfl,_,rfl,_,rfl,t',t,m',q',B,C,m,ws',ws,c',c,by rw[← el'];rfl,vt'.same sm1,vt.same sm1,tp'.len,m1',q1',by omega,bw',Nat.le_of_lt cC,BC,fun r2 H2 sm2 f2 h2=>?_⟩
 have lf:(Ld.scaled (Ld.fin ws q) c').length=l:=by rw[Ld.wO,Ld.zAu,tp.len,el]
 have lf':(Ld.scaled (Ld.fin ws' q') c).length=l:=by rw[Ld.wO,Ld.zAu,tp'.len,el']
 refine⟨r1,r2,_,_,rfl,SqL.of (sm2 _ _ h1),SqL.of h2,by rw[lf,lf'],by rw[lf];exact l2,fun r3 H3 sm3 f3 h3=>?_⟩
 have sm13:=(sm1.trans sm2).trans sm3
 obtain⟨u,ht,hu⟩:=vt.same sm13
 obtain⟨u',ht',hu'⟩:=vt'.same sm13
 have bp:Ld.Bd (2^(B+C+1)) (Ld.plus (Ld.scaled (Ld.fin ws q) c') (Ld.scaled (Ld.fin ws' q') c)):=Ld.bd_plus' (by rw[lf,lf']) (Ld.zFi (Ld.bd_fin bw (by rw[tp.len];exact m1) q1) (Nat.le_of_lt cC')) (Ld.zFi (Ld.bd_fin bw' (by rw[tp'.len];exact m1') q1') (Nat.le_of_lt cC))
 refine⟨_,rfl,t,_,_,_,rfl,rfl,SqT.of ht,at3_2 _ _ _,_,rfl,t',_,_,_,rfl,rfl,SqT.of ht',at3_2 _ _ _,_,_,rfl,rfl,mulB (Nat.le_of_lt cC) (Nat.le_of_lt cC') (by omega),r3,_,l,B+C+1,C+C,_,rfl,.inl (SqL.of h3),by rw[Ld.zAf (by rw[lf,lf']),lf],l1,l2,Vl.mul_ne (by omega) (by omega),Vl.nlt_mul cC cC',CC,bp,fun r4 H4 M W D sm4 f4 v4 t4 b4=>?_⟩
 refine k r4 H4 M W D (sm13.trans sm4) (sm13.free f4) v4 (tp.sum tp' l1 p1 q1 q1' el el' eJ b0 d0 t4) b4 ?_ ?_
 ·have dd:D.natAbs≤(c*c').natAbs:=Nat.le_of_dvd (by have:=Vl.mul_ne (show c≠0 by omega) (show c'≠0 by omega);omega) (Int.natAbs_dvd_natAbs.mpr t4.cb)
  exact Nat.lt_of_le_of_lt dd (Vl.nlt_mul cC cC')
 ·rw[el0,show l/m=q by rw[el];exact Nat.mul_div_cancel _ m1,show l/m'=q' by rw[el'];exact Nat.mul_div_cancel _ m1']
  exact t4
def spLess (K:PySem.W.Frag):Sp:=fun vs H Q _=>∃ (l r:Addr)(a b:List Int)(n:Nat)(rows:List (Int×Int×Int))(ps:List (Int×Int)),vs=[.ref l,.ref r]∧SqL K H l (a.map V.int)∧a.length=n∧b.length=n∧1≤n∧n≤420∧TrAt H r rows∧Pt.Parts n ps∧Rt.zAr n (fun p _=>p∈ps.map Prod.fst) a b rows∧rows.length≤4000 ∧
 ∀ t H',zR H H'→H' t=some (.lst (b.map V.int))→Q (.ref t) H'
theorem zDl (T:Txt K mg t_MOST_HOLES t_LEAD_BITS):Df P w K mg base 2 "_law_less_rows" ["load","rows"] (spLess K):=by
 have D_law_primes:=zAc (P:=P) (w:=w) (base:=base) T
 have D_law_number:=zBx (P:=P) (w:=w) (base:=base) T
 refine T.d_law_less_rows.ok zAn (fun vs H Q E h=>?_) (fun f cdv A outer s H vs Q E hr h=>?_)
 ·obtain⟨_,_,_,_,_,_,_,rfl,_⟩:=h;rfl
 obtain⟨l,r,a,bb,n,rows,ps,rfl,hl,la,lbb,n1,n2,tr,hp,rok,rl4,q⟩:=h
 have nd:=zAn.nd
 refine⟨_,(zC (zM (i:=2) nd rfl (Or.inl rfl) (zW zP (by rfl) T.b_len L2.vY (zA (pv 0) zH))) (zC (zM (i:=3) nd rfl (Or.inl rfl) (zCh zAx (by rfl) T.b_list L2.zBs (zA (pv 0) zH))) (zC (zM (i:=4) nd rfl (Or.inl rfl) (zQ D_law_primes (hr.mono (by decide)) (by rfl) (zA (pv 2) zH))) (zC (zM (i:=5) nd rfl (Or.inl rfl) pe_dnewT) (zC (vL (zCb (zCa (zW jI (by rfl) T.b_isinstance L2.wQ (zA (pv 1) (zA (zEb (v:=.ty "list") (by rfl) T.b_list L2.zBs (by rfl)) zH))))) (zI (zT jL)) zX) (zC (jA PassesOwn.never rfl (vZ (pv 1)) (zZ (i:=6) nd rfl (Or.inl rfl)) (zC (vL (PW.pt (zCp (zCb (zCa (zW jI (by rfl) T.b_isinstance L2.wQ (zA (pv 6) (zA (zEb (v:=.ty "tuple") (by rfl) T.b_tuple L2.bi_tuple (by rfl)) zH))))) (zCv (zN zEy (zW zP (by rfl) T.b_len L2.vY (zA (pv 6) zH)) zG (zS _))))) (zI (zT jL)) zX) (zC (vL (PW.pt (zCp (zCb (zCa (zQ D_law_number (hr.mono (by decide)) (by rfl) (zA (vA vC (pv 6) zG (fun _ _=>rfl)) zH)))) (zCp (zCb (zCa (zQ D_law_number (hr.mono (by decide)) (by rfl) (zA (vA vC (pv 6) zG (fun _ _=>rfl)) zH)))) (zCv (zCb (zCa (zQ D_law_number (hr.mono (by decide)) (by rfl) (zA (vA vC (pv 6) zG (fun _ _=>rfl)) zH)))))))) (zI (zT jL)) zX) (zC (vL (PW.pt (zCp (zN zCz (vA vC (pv 6) zG (fun _ _=>rfl)) (pv 4) (by rfl)) (zCp (zN zEs (vA vC (pv 6) zG (fun _ _=>rfl)) zG (zS _)) (zCp (zN op_ge (vA vC (pv 6) zG (fun _ _=>rfl)) (pv 2) (zS _)) (zCv (zN jR (vA vC (pv 6) zG (fun _ _=>rfl)) zG (zS _))))))) (zI (zT jL)) zX) (zC (vL (zN (op_din (hu1 hr)) (wI (zA (vA vC (pv 6) zG (fun _ _=>rfl)) (zA (vA vC (pv 6) zG (fun _ _=>rfl)) zH))) (pv 5) (by rfl)) (zI (zT jL)) zX) (zC (ps_dput (hu1 hr) (pv 5) (wI (zA (vA vC (pv 6) zG (fun _ _=>rfl)) (zA (vA vC (pv 6) zG (fun _ _=>rfl)) zH))) pe_bl (by rfl)) (zI (jA PassesOwn.never rfl (jP (by rfl) T.b_range (zA (vA vC (pv 6) zG (fun _ _=>rfl)) zH)) (zZ (i:=7) nd rfl (Or.inl rfl)) (zC (zM (i:=8) nd rfl (Or.inl rfl) (zO vK (zO vX (vA vC (pv 6) zG (fun _ _=>rfl)) (zO vO (pv 7) (zO zY (pv 2) (vA vC (pv 6) zG (fun _ _=>rfl))))) (pv 2))) (zI (zDd (zO zAs (vA vD (pv 3) (pv 8) (fun _ _=>rfl)) (vA vC (pv 6) zG (fun _ _=>rfl))) (zCu (pv 3) (pv 8) set_list)))))))))))) (zI (zT (pv 3))))))))),?_⟩
 refine⟨_,rfl,l,_,rfl,.inl hl,?_⟩
 rw[zEw la]
 refine⟨_,rfl,l,_,rfl,.inl hl,fun du hdu=>?_⟩
 have sm0:zR H (upd H du (.lst (a.map V.int))):=zK (zR.refl _) hdu
 have hd0:upd H du (.lst (a.map V.int)) du=some (.lst (a.map V.int)):=zD
 generalize upd H du (.lst (a.map V.int))=H0 at sm0 hd0 ⊢
 refine⟨_,rfl,n,rfl,n1,n2,fun r1 H1 ps1 sm1 f1 h1 hp1=>?_⟩
 have epp:=Pt.w9 hp1 hp
 subst epp
 have nr1:du≠r1:=zJ hd0 f1
 have hd1:=sm1 _ _ hd0
 refine fun se hse=>?_
 have nds:du≠se:=zJ hd1 hse
 have n1s:r1≠se:=zJ h1 hse
 have sm2:zR H1 (upd H1 se (.dT [])):=zK (zR.refl _) hse
 have hs2:upd H1 se (.dT []) se=some (.dT []):=zD
 have hd2:=sm2 _ _ hd1
 have h12:=sm2 _ _ h1
 have se0:H se=none:=sm0.free (sm1.free hse)
 have du0:H du=none:=hdu
 have smA:zR H (upd H1 se (.dT [])):=(sm0.trans sm1).trans sm2
 generalize upd H1 se (.dT [])=H2 at sm2 hs2 hd2 h12 smA ⊢
 obtain⟨rs,hrs,prs⟩:=tr
 have rl:=Paired.length prs
 refine⟨_,rfl,_,_,_,true,rfl,.lst (smA _ _ hrs),zDt _,true,rfl,iteF ?_⟩
 refine⟨_,rfl,r,rfl,⟨_,SqL.of (smA _ _ hrs)⟩,?_⟩
 refine zAe (xs:=rs.map V.ref) (fun i σ H4=>zR H H4∧H4 r1=some (.lst ((ps1.map Prod.fst).map V.int))∧∃ (b:List Int)(kvs:List (List Key×V))(o1 o2 o3:Option V),σ=[some (.ref l),some (.ref r),some (.int n),some (.ref du),some (.ref r1),some (.ref se),o1,o2,o3]∧H4 du=some (.lst (b.map V.int))∧b.length=n∧H4 se=some (.dT kvs)∧kvs.length≤i∧(∀ p h:Int,(p,h)∉(rows.take i).map (fun t=>(t.1,t.2.1))→zDw kvs (k2 p h)=none)∧∀ x,Ld.at' b x+Rg.rvs n (rows.take i) x=Ld.at' a x)
  ⟨smA,h12,a,[],none,none,none,rfl,hd2,la,hs2,by simp,fun p h _=>rfl,fun x=>by rw[List.take_zero];unfold Rg.rvs;simp⟩ (fun i σ H4 _ z=>z.1.seq (SqL.of hrs)) ?_ ?_
 ·rintro i x σ H4 hx ⟨sm4,h14,b,kvs,o1,o2,o3,rfl,hb,lb,hs4,kl,kn,inv⟩
  obtain⟨ad,rfl,ea⟩:=zDe hx
  obtain⟨⟨p,hole,many⟩,ep,ha⟩:=v8 prs ea
  have mem:=List.mem_of_getElem? ep
  obtain⟨c,h0,hn,mz⟩:=rok.ok _ mem
  dsimp only at c h0 hn mz
  have ilt:=(List.getElem?_eq_some_iff.mp ep).1
  obtain⟨y,hy,ey⟩:=List.mem_map.mp c
  have pd:p∣(n:Int):=by rw[← ey];exact ((Pt.vG hp y).mp hy).2.1
  have p2:2≤p:=by rw[← ey];exact (hp.row y hy).pr.1
  have pn:=Int.le_of_dvd (by omega) pd
  obtain⟨st,est,st0,enp,_⟩:=Rg.w5 n1 p2 pd
  have ha4:=sm4 _ _ ha
  dsimp only at ha4
  have i0:atI [V.int p,V.int hole,V.int many] 0=some (.int p):=rfl
  have i1:atI [V.int p,V.int hole,V.int many] 1=some (.int hole):=rfl
  have i2:atI [V.int p,V.int hole,V.int many] 2=some (.int many):=rfl
  refine⟨_,rfl,_,_,_,true,rfl,.tup ha4,zDt _,true,rfl,iteF ?_⟩
  refine⟨_,rfl,ad,_,rfl,.inr (SqT.of ha4),rfl,_,rfl,iteNS rfl ?_⟩
  refine⟨_,rfl,ad,_,_,_,rfl,rfl,SqT.of ha4,i0,p,rfl,true,rfl,iteF ?_⟩
  refine⟨_,rfl,ad,_,_,_,rfl,rfl,SqT.of ha4,i1,hole,rfl,true,rfl,iteF ?_⟩
  refine⟨_,rfl,ad,_,_,_,rfl,rfl,SqT.of ha4,i2,many,rfl,true,rfl,iteF ?_⟩
  refine⟨_,rfl,ad,_,_,_,rfl,rfl,SqT.of ha4,i0,_,rfl,r1,_,rfl,.inl (SqL.of h14),rfl,zEf _,_,rfl,?_⟩
  rw[inV_ints,decide_eq_true c]
  refine iteF ?_
  refine⟨_,rfl,ad,_,_,_,rfl,rfl,SqT.of ha4,i1,_,_,rfl,rfl,_,rfl,jQ (fun d=>absurd (dec d) (by omega)) (fun _=>?_)⟩
  refine⟨_,rfl,ad,_,_,_,rfl,rfl,SqT.of ha4,i1,_,rfl,_,_,rfl,rfl,_,rfl,jQ (fun d=>absurd (dec d) (by omega)) (fun _=>?_)⟩
  refine⟨_,rfl,ad,_,_,_,rfl,rfl,SqT.of ha4,i2,rfl,_,rfl,jQ (fun d=>absurd (vint d) mz) (fun _=>?_)⟩
  have new:(p,hole)∉(rows.take i).map (fun t=>(t.1,t.2.1)):=by
   have nod:=rok.nd
   rw[← List.take_append_drop i rows,List.map_append] at nod
   have dis:=(List.nodup_append.mp nod).2.2
   intro z
   refine dis _ z (p,hole) ?_ rfl
   refine List.mem_map.mpr ⟨(p,hole,many),?_,rfl⟩
   rw[List.drop_eq_getElem_cons ilt,(List.getElem?_eq_some_iff.mp ep).2]
   exact List.mem_cons_self
  refine⟨_,rfl,ad,_,_,_,rfl,rfl,SqT.of ha4,i0,_,rfl,ad,_,_,_,rfl,rfl,SqT.of ha4,i1,(by show 2≤sizeLine;decide),fun t ht=>?_⟩
  have sm5:zR H4 (upd H4 t (.tup [V.int p,V.int hole])):=zK (zR.refl _) ht
  have ht5:upd H4 t (.tup [V.int p,V.int hole]) t=some (.tup [V.int p,V.int hole]):=zD
  generalize upd H4 t (.tup [V.int p,V.int hole])=H5 at sm5 ht5 ⊢
  refine⟨_,rfl,se,_,rfl,DGet.p (sm5 _ _ hs4) ht5,_,rfl,?_⟩
  rw[kn p hole new]
  refine iteF ?_
  have ha5:=sm5 _ _ ha4
  refine⟨_,rfl,_,rfl,ad,_,_,_,rfl,rfl,SqT.of ha5,i0,_,rfl,ad,_,_,_,rfl,rfl,SqT.of ha5,i1,(by show 2≤sizeLine;decide),fun t6 ht6=>?_⟩
  have sm6:zR H5 (upd H5 t6 (.tup [V.int p,V.int hole])):=zK (zR.refl _) ht6
  have ht66:upd H5 t6 (.tup [V.int p,V.int hole]) t6=some (.tup [V.int p,V.int hole]):=zD
  generalize upd H5 t6 (.tup [V.int p,V.int hole])=H6 at sm6 ht66 ⊢
  have sm46:=sm5.trans sm6
  refine⟨se,_,rfl,DPut.p (sm46 _ _ hs4) ht66 (zAg (by omega)),?_⟩
  have kp7:∀ c o,c≠se→H4 c=some o→upd H6 se (.dT (putK kvs (k2 p hole) (.bl true))) c=some o:=fun c o ne h=>(zL ne).trans (sm46 _ _ h)
  have hs7:upd H6 se (.dT (putK kvs (k2 p hole) (.bl true))) se=some (.dT (putK kvs (k2 p hole) (.bl true))):=zD
  have ha7:=kp7 _ _ (ne_of ha4 hs4 (fun z=>by cases z)) ha4
  have hb7:=kp7 _ _ nds hb
  have h17:=kp7 _ _ n1s h14
  have sm7:zR H (upd H6 se (.dT (putK kvs (k2 p hole) (.bl true)))):=fun c o h=>kp7 c o (fun z=>by rw[z,se0] at h;cases h) (sm4 _ _ h)
  generalize upd H6 se (.dT (putK kvs (k2 p hole) (.bl true)))=H7 at kp7 hs7 ha7 hb7 h17 sm7 ⊢
  have nad:ad≠du:=ne_of ha7 hb7 (fun z=>by cases z)
  refine⟨_,rfl,ad,_,_,_,rfl,rfl,SqT.of ha7,i0,_,rfl,by omega,by omega,?_⟩
  refine jF (fun k σ H8=>zR H H8∧H8 r1=some (.lst ((ps1.map Prod.fst).map V.int))∧H8 ad=some (.tup [.int p,.int hole,.int many])∧H8 se=some (.dT (putK kvs (k2 p hole) (.bl true)))∧∃ (b':List Int)(o4 o5:Option V),σ=[some (.ref l),some (.ref r),some (.int n),some (.ref du),some (.ref r1),some (.ref se),some (.ref ad),o4,o5]∧H8 du=some (.lst (b'.map V.int))∧b'.length=n ∧
    ∀ x:Int,Ld.at' b' x=Ld.at' b x+(if (x-hole)%st=0∧((x-hole)%n)/st < (k:Int) then -many else 0))
   ⟨sm7,h17,ha7,hs7,b,_,_,rfl,hb7,lb,Rg.own0 (by omega) st0 hole (-many) b⟩ ?_ ?_
  ·rintro k σ H8 hk ⟨sm8,h18,ha8,hs8,b',o4,o5,rfl,hb',lb',inv'⟩
   have kp:(k:Int) < p:=by omega
   refine⟨_,rfl,ad,_,_,_,rfl,rfl,SqT.of ha8,i1,_,rfl,_,rfl,_,rfl,ad,_,_,_,rfl,rfl,SqT.of ha8,i0,_,_,rfl,rfl,zU (by omega) (by omega),_,_,rfl,rfl,vF (by omega) (by omega),_,_,rfl,rfl,_,rfl,_,_,rfl,rfl,(show (0:Int) < n by omega),?_⟩
   dsimp only
   rw[est]
   refine⟨_,rfl,_,rfl,du,_,_,_,rfl,rfl,SqL.of hb',zAz lb' (by omega) _,_,rfl,ad,_,_,_,rfl,rfl,SqT.of ha8,i2,_,_,rfl,rfl,_,rfl,_,rfl,du,_,_,_,rfl,rfl,hb',zAy (zEw lb') (by omega) _,?_⟩
   rw[set_int,Int.sub_eq_add_neg]
   exact⟨vE sm8 hdu,(zL (Ne.symm nr1)).trans h18,(zL nad).trans ha8,(zL (Ne.symm nds)).trans hs8,_,_,_,rfl,zD,by rw[List.length_set,lb'],Rg.own1 st0 enp (by omega) lb' inv'⟩
  ·rintro σ H8 ⟨sm8,h18,ha8,hs8,b',o4,o5,rfl,hb',lb',inv'⟩
   refine⟨sm8,h18,b',_,_,_,_,rfl,hb',lb',hs8,by have:=zBq kvs (k2 p hole) (.bl true);omega,fun p' h' no=>?_,fun x=>?_⟩
   ·rw[Pt.take_snoc ep,List.map_append] at no
    rw[valV_put,if_neg,kn p' h' (fun z=>no (List.mem_append_left _ z))]
    intro z
    refine no (List.mem_append_right _ ?_)
    injection z with z1 z2
    injection z1 with z1
    injection z2 with z2
    injection z2 with z2
    rw[z1,z2];simp
   ·have ip:=inv x
    rw[Rg.own2 st0 (show 0 < p.toNat by omega) enp inv',Pt.take_snoc ep,Rg.rvs_snoc]
    unfold Rg.rv
    rw[est]
    show Ld.at' b x+(if (x-hole)%(st:Int)=0 then -many else 0)+(Rg.rvs n (rows.take i) x+(if (x-hole)%(st:Int)=0 then many else 0))=Ld.at' a x
    split <;> omega
 ·rintro σ H4 ⟨sm4,h14,b,kvs,o1,o2,o3,rfl,hb,lb,hs4,kl,kn,inv⟩
  rw[List.length_map,rl,List.take_length] at inv
  refine⟨_,rfl,q du H4 sm4 ?_⟩
  have e:b=bb:=Ld.ext (lb.trans lbb.symm) fun k _=>by have:=inv k;have:=rok.eq k;omega
  rw[← e];exact hb
def spOf2:Sp:=fun vs H Q _=>∃ c:Int,vs=[.int c]∧∀ (n:Nat) H' ps,1≤n→n≤420→Pt.Parts n ps→ps.length≤2→zR H H'→Q (.int n) H'
theorem ok_law_of_two (T:Txt K mg t_MOST_HOLES t_LEAD_BITS):Df P w K mg base 2 "_law_of_two" ["cell"] spOf2:=by
 have D_law_primes:=zAc (P:=P) (w:=w) (base:=base) T
 refine T.d_law_of_two.ok zCi (fun vs H Q E h=>?_) (fun f cdv A outer s H vs Q E hr h=>?_)
 ·obtain⟨_,rfl,_⟩:=h;rfl
 obtain⟨c,rfl,q⟩:=h
 have nd:=zCi.nd
 refine⟨_,(zC (zM (i:=1) nd rfl (Or.inl rfl) (zO vX zG (zO vK (pv 0) zG))) (zC (zM (i:=2) nd rfl (Or.inl rfl) (zQ D_law_primes (hr.mono (by decide)) (by rfl) (zA (pv 1) zH))) (zC (jA PassesOwn.never rfl (vZ (pe_slice sl_list (pv 2) (po_some zG) po_none)) (zZ (i:=3) nd rfl (Or.inl rfl)) (zI (zAd PassesOwn.never (zN jR (zO vK (pv 1) (pv 3)) zG (zS _)) (zI (zM (i:=1) nd rfl (Or.inl rfl) (zO zY (pv 1) (pv 3))))))) (zI (zT (pv 1)))))),?_⟩
 have w0:=Int.emod_nonneg c (show (60:Int)≠0 by decide)
 have w1:=Int.emod_lt_of_pos c (show (0:Int) < 60 by decide)
 obtain⟨n,en,n1,n2⟩:∃ n:Nat,1+c%60=(n:Int)∧1≤n∧n≤420:=⟨(1+c%60).toNat,by omega,by omega,by omega⟩
 refine⟨_,rfl,_,_,rfl,rfl,(by show (0:Int) < _;decide),_,_,rfl,rfl,?_⟩
 dsimp only
 rw[en]
 refine⟨_,rfl,n,rfl,n1,n2,fun r1 H1 ps sm1 f1 h1 hp=>?_⟩
 refine⟨_,rfl,_,rfl,r1,_,rfl,SqL.of h1,fun d hd=>?_⟩
 rw[show (2:Int)=((2:Nat):Int) from rfl,cut_from,← List.map_drop]
 have smD:zR H1 (upd H1 d (.lst (((ps.drop 2).map Prod.fst).map V.int))):=zK (zR.refl _) hd
 have hd1:upd H1 d (.lst (((ps.drop 2).map Prod.fst).map V.int)) d=some (.lst (((ps.drop 2).map Prod.fst).map V.int)):=zD
 generalize upd H1 d (.lst (((ps.drop 2).map Prod.fst).map V.int))=H2 at smD hd1 ⊢
 have smA:=sm1.trans smD
 refine⟨d,rfl,⟨_,SqL.of hd1⟩,?_⟩
 have sub:∀ i:Nat,(ps.take 2 ++ (ps.drop 2).drop i).Sublist ps:=fun i=>by
  have h1:=(List.Sublist.refl (ps.take 2)).append (List.drop_sublist i (ps.drop 2))
  rwa [List.take_append_drop] at h1
 have pos:∀ i:Nat,1≤Pt.Prd (ps.take 2 ++ (ps.drop 2).drop i):=fun i=>Pt.zAi _ fun y hy=>hp.row y ((sub i).subset hy)
 refine zAe (xs:=((ps.drop 2).map Prod.fst).map V.int) (fun i σ H3=>H3=H2∧∃ o1:Option V,σ=[some (.int c),some (.int (Pt.Prd (ps.take 2 ++ (ps.drop 2).drop i))),some (.ref r1),o1]∧Pt.Prd (ps.take 2 ++ (ps.drop 2).drop i)≤n) ⟨rfl,none,by rw[List.drop_zero,List.take_append_drop,hp.prd];rfl,by rw[List.drop_zero,List.take_append_drop,hp.prd];exact Int.le_refl _⟩ (fun i σ H3 _ z=>by rw[z.1];exact SqL.of hd1) ?_ ?_
 ·rintro i xv σ H3 hx ⟨rfl,o1,rfl,le⟩
  obtain⟨p,rfl,ep⟩:=int_at hx
  have ilt:i < (ps.drop 2).length:=by have:=(List.getElem?_eq_some_iff.mp ep).1;rwa [List.length_map] at this
  have ed:(ps.drop 2).drop i=(ps.drop 2)[i]::(ps.drop 2).drop (i+1):=List.drop_eq_getElem_cons ilt
  have ex:(ps.drop 2)[i]?=some (ps.drop 2)[i]:=List.getElem?_eq_getElem ilt
  have e1:(ps.drop 2)[i].1=p:=by rw[List.getElem?_map,ex] at ep;exact Option.some.inj ep
  have mem:(ps.drop 2)[i]∈ps:=List.mem_of_mem_drop (List.getElem_mem ilt)
  have srt:(ps.take 2 ++ (ps.drop 2).drop i).Pairwise (fun a b=>a.1 < b.1):=hp.srt.sublist (sub i)
  have sp:=sub (i+1)
  have M1:=pos (i+1)
  rw[ed] at srt le ⊢
  have row:=hp.row _ mem
  generalize (ps.drop 2)[i]=x at *
  subst e1
  have ne:∀ y∈ps.take 2 ++ (ps.drop 2).drop (i+1),y.1≠x.1:=fun y hy e=>by
   rcases List.mem_append.mp hy with g | g
   ·have:=(List.pairwise_append.mp srt).2.2 y g x List.mem_cons_self
    omega
   ·have:=(List.pairwise_cons.mp (List.pairwise_append.mp srt).2.1).1 y g
    omega
  have no:=Ps.row_no row (fun y hy=>hp.row y (sp.subset hy)) ne
  have eM:Pt.Prd (ps.take 2 ++ x::(ps.drop 2).drop (i+1))=x.2*Pt.Prd (ps.take 2 ++ (ps.drop 2).drop (i+1)):=by
   rw[Ps.Prd_app,Ps.Prd_app]
   simp only [Pt.Prd]
   rw[Int.mul_left_comm]
  rw[eM] at le ⊢
  generalize Pt.Prd (ps.take 2 ++ (ps.drop 2).drop (i+1))=M at *
  obtain⟨e,he⟩:=row.pw
  have p2:=row.pr.1
  refine⟨fun m σ H4=>H4=H3∧∃ j:Nat,σ=[some (.int c),some (.int (x.1^j*M)),some (.ref r1),some (.int x.1)]∧x.1^j*M≤n∧m=j,
   ⟨_,rfl,e+1,by rw[he];rfl,by rw[← he];exact le,rfl⟩,?_⟩
  rintro m σ H4 ⟨rfl,j,rfl,lj,rfl⟩
  refine⟨_,rfl,_,rfl,_,_,rfl,rfl,(show 0 < x.1 by omega),rfl,_,rfl,jQ (fun d'=>?_) (fun d'=>?_)⟩
  ·have d0:=vint d'
   cases m with
   | zero=>rw[Int.pow_zero,Int.one_mul] at d0;exact absurd (Int.dvd_of_emod_eq_zero d0) no
   | succ k =>
    have pn:x.1≤420:=by
     have a1:x.2≤n:=by have:=Pt.le_Prd ps hp.row _ mem;rw[hp.prd] at this;exact this
     have a2:=(Pt.zBn row).2
     omega
    have ek:x.1^(k+1)*M/x.1=x.1^k*M:=by
     rw[Int.pow_succ,Int.mul_comm (x.1^k),Int.mul_assoc];exact Int.mul_ediv_cancel_left _ (by omega)
    refine⟨_,fun _ _ h=>h,?_⟩
    refine⟨_,rfl,_,rfl,_,_,rfl,rfl,zU (by omega) (by omega),?_⟩
    dsimp only
    rw[ek]
    have ple:x.1^k*M≤x.1^(k+1)*M:=by
     have pk:0≤x.1^k:=Int.pow_nonneg (by omega)
     have:=Int.mul_le_mul_of_nonneg_left (show 1≤x.1 by omega) pk
     rw[Int.pow_succ]
     exact Int.mul_le_mul_of_nonneg_right (by omega) (by omega)
    exact⟨k,by omega,rfl,k,rfl,by omega,rfl⟩
  ·have d0:=zDj d'
   cases m with
   | zero=>exact⟨rfl,_,by rw[Int.pow_zero,Int.one_mul],by rw[Int.pow_zero,Int.one_mul] at lj;exact lj⟩
   | succ k =>
    refine absurd ?_ d0
    rw[Int.pow_succ,Int.mul_comm (x.1^k),Int.mul_assoc]
    exact Int.mul_emod_right _ _
 ·rintro σ H3 ⟨rfl,o1,rfl,le⟩
  rw[List.length_map,List.length_map,List.drop_length,List.append_nil] at le ⊢
  have pp:=Ps.parts_sub hp (List.take_sublist 2 ps)
  have p1:=Pt.zAi (ps.take 2) pp.row
  obtain⟨N,eN⟩:∃ N:Nat,Pt.Prd (ps.take 2)=(N:Int):=⟨(Pt.Prd (ps.take 2)).toNat,by omega⟩
  rw[eN] at pp le p1 ⊢
  exact⟨_,rfl,q N _ (ps.take 2) (by omega) (by omega) pp (by rw[List.length_take];omega) smA⟩
theorem at_add1 {a:List Int}{n:Nat}(hl:a.length=n)(hn:0 < n)(x v y:Int):Ld.at' (a.set (x%n).toNat (Ld.at' a x+v)) y=Ld.at' a y+(if y%n=x%n then v else 0):=by
 rw[Ld.zFu hl hn]
 split
 ·rename_i h
  rw[Ld.vM hl y x h]
 ·omega
theorem can1k {p many:Int}(p2:2≤p)(m0:0≤many):Ps.Can [p] many↔∃ k:Nat,(k:Int) < many/p+1∧many-k*p=0:=by
 rw[Ps.can1 p2]
 constructor
 ·rintro⟨_,e⟩
  have q0:0≤many/p:=Int.ediv_nonneg m0 (by omega)
  refine⟨(many/p).toNat,by omega,?_⟩
  rw[Int.toNat_of_nonneg q0,Int.ediv_mul_cancel (Int.dvd_of_emod_eq_zero e)];omega
 ·rintro⟨k,_,e⟩
  exact⟨m0,by rw[show many=k*p by omega];exact Int.mul_emod_left _ _⟩
theorem can2k {p q many:Int}(p2:2≤p)(q2:2≤q)(m0:0≤many):Ps.Can [p,q] many↔∃ k:Nat,(k:Int) < many/q+1∧(many-k*q)%p=0:=by
 rw[Ps.can2]
 constructor
 ·rintro⟨a,b,a0,b0,e⟩
  have ap:0≤a*p:=Int.mul_nonneg a0 (by omega)
  refine⟨b.toNat,?_,?_⟩
  ·rw[Int.toNat_of_nonneg b0]
   have:b≤many/q:=(Int.le_ediv_iff_mul_le (by omega)).mpr (by omega)
   omega
  ·rw[Int.toNat_of_nonneg b0,show many-b*q=a*p by omega];exact Int.mul_emod_left _ _
 ·rintro⟨k,hk,e⟩
  have le:(k:Int)*q≤many:=(Int.le_ediv_iff_mul_le (by omega)).mp (by omega)
  refine⟨(many-k*q)/p,k,Int.ediv_nonneg (by omega) (by omega),by omega,?_⟩
  rw[Int.ediv_mul_cancel (Int.dvd_of_emod_eq_zero e)];omega
def spCan:Sp:=fun vs H Q _=>∃ (r:Addr)(pl:List Int)(many:Int),vs=[.ref r,.int many]∧H r=some (.lst (pl.map V.int))∧PL2 pl∧many≤1000∧∀ b H',(b=true↔Ps.Can pl many)→zR H H'→Q (.bl b) H'
theorem ok_law_can (T:Txt K mg t_MOST_HOLES t_LEAD_BITS):Df P w K mg base 1 "_law_can" ["some","many"] spCan:=by
 refine T.d_law_can.ok zFg (fun vs H Q E h=>?_) (fun f cdv A outer s H vs Q E hr h=>?_)
 ·obtain⟨_,_,_,rfl,_⟩:=h;rfl
 obtain⟨r,pl,many,rfl,hl,pk,mb,q⟩:=h
 have nd:=zFg.nd
 refine⟨_,(zC (vL (zN zEs (pv 1) zG (zS _)) (zI (zT pe_bl)) zX) (zC (vL (zN (zEi (hu64 hr)) (pv 0) (wE zH) (zS _)) (zI (zT (zAt jR (pv 1) zG (zS _)))) zX) (zC (jA PassesOwn.never rfl (jP (by rfl) T.b_range (zA (zO vX (zO zY (pv 1) (vA vD (pv 0) (pe_un un_neg zG) (fun _ _=>rfl))) zG) zH)) (zZ (i:=2) nd rfl (Or.inl rfl)) (zC (zM (i:=3) nd rfl (Or.inl rfl) (zO zAs (pv 1) (zO vO (pv 2) (vA vD (pv 0) (pe_un un_neg zG) (fun _ _=>rfl))))) (zI (vL (PW.pt (zCp (PW.pt (pw_and (zN jR (zW zP (by rfl) T.b_len L2.vY (zA (pv 0) zH)) zG (zS _)) (pw_and1 (zN jR (pv 3) zG (zS _))))) (zCv (PW.pt (pw_and (zN jR (zW zP (by rfl) T.b_len L2.vY (zA (pv 0) zH)) zG (zS _)) (pw_and1 (zN jR (zO vK (pv 3) (vA vD (pv 0) zG (fun _ _=>rfl))) zG (zS _)))))))) (zI (zT pe_bl)) zX)))) (zI (zT pe_bl))))),?_⟩
 refine⟨_,rfl,_,_,rfl,rfl,_,rfl,jQ (fun c=>?_) (fun c=>?_)⟩
 ·have neg:=dec c
  refine q false _ ⟨fun z=>(by cases z),fun z=>?_⟩ (zR.refl _)
  exfalso
  rcases pl2 pk with e | ⟨p,e⟩ | ⟨p,r',e⟩
  ·rw[e] at z;have:=Ps.can0.mp z;omega
  ·rw[e] at z pk
   have:=(Ps.can1 (pk.2 p (by simp)).1).mp z
   omega
  ·rw[e] at z pk
   have:=Ps.can_pos (pk.2 p (by simp)).1 (pk.2 r' (by simp)).1 z
   omega
 have nn:=ndec c
 refine⟨_,rfl,Nat.zero_le _,fun e1 he1=>zFq (ns:=pl) (ms:=[]) (SqL.of ((zL (zJ hl he1)).trans hl)) (SqL.of zD) ⟨_,rfl,?_⟩⟩
 have sm1:zR H (upd H e1 (.lst [])):=zK (zR.refl _) he1
 have h1:=sm1 _ _ hl
 generalize upd H e1 (.lst [])=H1 at sm1 h1 ⊢
 rcases pl2 pk with e | ⟨p,e⟩ | ⟨p,r',e⟩
 ·subst e
  refine zDp (decide_eq_true rfl) ⟨_,rfl,rfl,?_⟩
  refine q _ _ ?_ sm1
  rw[Ps.can0]
  exact⟨fun z=>vint z,fun z=>by rw[z];exact decide_eq_true rfl⟩
 ·subst e
  have p2:=pk.2 p (by simp)
  have a1:atI ([p].map V.int) (-1)=some (.int p):=rfl
  have q0:0≤many/p:=Int.ediv_nonneg (by omega) (by omega)
  have q1:many/p≤many:=Int.ediv_le_self _ (by omega)
  refine zBf (by simp) ?_
  refine⟨_,rfl,_,rfl,_,rfl,r,_,_,_,rfl,rfl,SqL.of h1,a1,_,_,rfl,rfl,zU (by omega) (by omega),_,_,rfl,rfl,((many/p+1).toNat:Int),?_,by omega,by omega,?_⟩
  ·show [V.int (many/p+1)]=_
   rw[Int.toNat_of_nonneg (by omega)]
  rw[Int.toNat_natCast]
  refine jF (fun i σ H2=>H2=H1∧∃ o1 o2:Option V,σ=[some (.ref r),some (.int many),o1,o2]∧∀ k:Nat,k < i→¬ many-k*p=0) ⟨rfl,none,none,rfl,fun k hk=>by omega⟩ ?_ ?_
  ·rintro i σ H2 hi ⟨rfl,o1,o2,rfl,no⟩
   refine⟨_,rfl,_,rfl,_,rfl,_,rfl,r,_,_,_,rfl,rfl,SqL.of h1,a1,_,_,rfl,rfl,vF (by omega) (by omega),_,_,rfl,rfl,?_⟩
   refine⟨_,rfl,r,_,rfl,.inl (SqL.of h1),rfl,_,rfl,zDp (decide_eq_true rfl) ⟨_,rfl,rfl,_,rfl,jQ (fun c2=>?_) (fun c2=>⟨_,rfl,r,_,rfl,.inl (SqL.of h1),rfl,_,rfl,zBf (by simp) ?_⟩)⟩⟩
   ·exact q true _ ⟨fun _=>(can1k p2.1 (by omega)).mpr ⟨i,by omega,vint c2⟩,fun _=>rfl⟩ sm1
   ·refine⟨rfl,_,_,rfl,fun k hk=>?_⟩
    rcases Nat.lt_or_ge k i with g | g
    ·exact no k g
    ·have:k=i:=by omega
     rw[this];exact zDj c2
  ·rintro σ H2 ⟨rfl,o1,o2,rfl,no⟩
   refine q false _ ⟨fun z=>(by cases z),fun z=>?_⟩ sm1
   obtain⟨k,hk,e⟩:=(can1k p2.1 (by omega)).mp z
   exact absurd e (no k (by omega))
 ·subst e
  have p2:=pk.2 p (by simp)
  have r2:=pk.2 r' (by simp)
  have a0:atI ([p,r'].map V.int) 0=some (.int p):=rfl
  have a1:atI ([p,r'].map V.int) (-1)=some (.int r'):=rfl
  have q0:0≤many/r':=Int.ediv_nonneg (by omega) (by omega)
  have q1:many/r'≤many:=Int.ediv_le_self _ (by omega)
  refine zBf (by simp) ?_
  refine⟨_,rfl,_,rfl,_,rfl,r,_,_,_,rfl,rfl,SqL.of h1,a1,_,_,rfl,rfl,zU (by omega) (by omega),_,_,rfl,rfl,((many/r'+1).toNat:Int),?_,by omega,by omega,?_⟩
  ·show [V.int (many/r'+1)]=_
   rw[Int.toNat_of_nonneg (by omega)]
  rw[Int.toNat_natCast]
  refine jF (fun i σ H2=>H2=H1∧∃ o1 o2:Option V,σ=[some (.ref r),some (.int many),o1,o2]∧∀ k:Nat,k < i→¬ (many-k*r')%p=0) ⟨rfl,none,none,rfl,fun k hk=>by omega⟩ ?_ ?_
  ·rintro i σ H2 hi ⟨rfl,o1,o2,rfl,no⟩
   refine⟨_,rfl,_,rfl,_,rfl,_,rfl,r,_,_,_,rfl,rfl,SqL.of h1,a1,_,_,rfl,rfl,vF (by omega) (by omega),_,_,rfl,rfl,?_⟩
   refine⟨_,rfl,r,_,rfl,.inl (SqL.of h1),rfl,_,rfl,zBf (by simp) ⟨_,rfl,r,_,rfl,.inl (SqL.of h1),rfl,_,rfl,zDp (decide_eq_true rfl) ⟨_,rfl,_,rfl,r,_,_,_,rfl,rfl,SqL.of h1,a0,_,_,rfl,rfl,(show 0 < p by omega),rfl,_,rfl,jQ (fun c2=>?_) (fun c2=>?_)⟩⟩⟩
   ·exact q true _ ⟨fun _=>(can2k p2.1 r2.1 (by omega)).mpr ⟨i,by omega,vint c2⟩,fun _=>rfl⟩ sm1
   ·refine⟨rfl,_,_,rfl,fun k hk=>?_⟩
    rcases Nat.lt_or_ge k i with g | g
    ·exact no k g
    ·have:k=i:=by omega
     rw[this];exact zDj c2
  ·rintro σ H2 ⟨rfl,o1,o2,rfl,no⟩
   refine q false _ ⟨fun z=>(by cases z),fun z=>?_⟩ sm1
   obtain⟨k,hk,e⟩:=(can2k p2.1 r2.1 (by omega)).mp z
   exact absurd e (no k (by omega))
theorem dlt_step {n i:Nat}{b:List Int}(n1:1≤n)(lb:b.length=n)(hi:i < n)(x:Int):(if x%n < ((i+1:Nat):Int) then Ld.at' b x else 0)=(if x%n < (i:Int) then Ld.at' b x else 0)+Ld.at' b i*Ld.at' (Ld.hung n i 1) x:=by
 have e:Ld.at' (Ld.hung n i 1) x=if x%n=(i:Int)%n then 1 else 0:=Ld.at_hung n1 i 1 x
 have ei:(i:Int)%n=i:=Int.emod_eq_of_lt (by omega) (by omega)
 rw[e,ei]
 have ax:x%n=i→Ld.at' b x=Ld.at' b i:=fun h=>Ld.vM lb x i (by rw[h,ei])
 by_cases h:x%n=i
 ·rw[if_pos (by omega),if_neg (by omega),if_pos h,ax h];omega
 ·rw[if_neg h,Int.mul_zero,Int.add_zero]
  by_cases g:x%n < (i:Int)
  ·rw[if_pos (by omega),if_pos g]
  ·rw[if_neg (by omega),if_neg g]
def spSG:Sp:=fun vs H Q _=>∃ (n:Nat)(many:Int)(r:Addr)(ps:List (Int×Int)),vs=[.int n,.int many,.ref r]∧H r=some (.lst ((ps.map Prod.fst).map V.int))∧1≤n∧n≤420∧Pt.Parts n ps∧ps.length≤2∧-10≤many∧many≤500∧∀ H',zR H H'→Q (.bl true) H'
theorem zBu (T:Txt K mg t_MOST_HOLES t_LEAD_BITS):Df P w K mg base 8 "_law_setting_good" ["n","many","some"] spSG:=by
 have D_setting:=ok_setting (P:=P) (w:=w) (base:=base) T
 have D_law_can:=ok_law_can (P:=P) (w:=w) (base:=base) T
 have D_law_number:=zBx (P:=P) (w:=w) (base:=base) T
 have D_whole:=ok_whole (P:=P) (w:=w) (base:=base) T
 have D_turn:=ok_turn (P:=P) (w:=w) (base:=base) T
 have D_added:=ok_added (P:=P) (w:=w) (base:=base) T
 refine T.d_law_setting_good.ok jG (fun vs H Q E h=>?_) (fun f cdv A outer s H vs Q E hr h=>?_)
 ·obtain⟨_,_,_,_,rfl,_⟩:=h;rfl
 obtain⟨n,many,r,ps,rfl,hr1,n1,n2,hp,l2,mb0,mb1,q⟩:=h
 have nd:=jG.nd
 have pk:PL2 (ps.map Prod.fst):=⟨by rw[List.length_map];exact l2,fun p hp'=>by
  obtain⟨x,hx,ex⟩:=List.mem_map.mp hp'
  have a:=Pt.zBn (hp.row _ hx)
  have b:=Pt.le_Prd ps hp.row _ hx
  rw[hp.prd] at b
  rw[← ex];omega⟩
 have two:∀ due:Bool,(due=true↔Ps.Can (ps.map Prod.fst) many∧Ps.Can (ps.map Prod.fst) ((n:Int)-many))→∃ d2:Bool,(d2=if n=1 then decide (many=0) else due)∧(d2=true↔Due n (ps.map Prod.fst) many):=fun due hd=>by
  refine⟨_,rfl,?_⟩
  unfold Due
  by_cases z:n=1
  ·rw[if_pos z]
   exact⟨fun h=>.inl ⟨z,of_decide_eq_true h⟩,fun h=>by rcases h with h | h;exact decide_eq_true h.2;exact absurd z h.1⟩
  ·rw[if_neg z]
   exact⟨fun h=>.inr ⟨z,hd.mp h⟩,fun h=>by rcases h with h | h;exact absurd h.1 z;exact hd.mpr h.2⟩
 refine⟨_,(zC (zM (i:=3) nd rfl (Or.inl rfl) (zQ D_setting (hr.mono (by decide)) (by rfl) (zA (pv 0) (zA (pv 1) zH)))) (zC (zM (i:=4) nd rfl (Or.inl rfl) (pe_and (zQ D_law_can (hr.mono (by decide)) (by rfl) (zA (pv 2) (zA (pv 1) zH))) (pe_one (zQ D_law_can (hr.mono (by decide)) (by rfl) (zA (pv 2) (zA (zO zAs (pv 0) (pv 1)) zH)))))) (pss_mid (vL (zN jR (pv 0) zG (zS _)) (zI (zM (i:=4) nd rfl (Or.inl rfl) (zAt jR (pv 1) zG (zS _)))) zX) (zC (vL (zCb (zCa (pv 4))) (zI (zT (zAt op_isN (pv 3) jL (zS _)))) zX) (zC (vL (PW.pt (zCp (zCb (zCa (zW jI (by rfl) T.b_isinstance L2.wQ (zA (pv 3) (zA (zEb (v:=.ty "list") (by rfl) T.b_list L2.zBs (by rfl)) zH))))) (zCv (zN zEy (zW zP (by rfl) T.b_len L2.vY (zA (pv 3) zH)) (pv 0) (zS _))))) (zI (zT pe_bl)) zX) (zC (zM (i:=5) nd rfl (Or.inl rfl) (zQ D_whole (hr.mono (by decide)) (by rfl) (zA zG zH))) (zC (zM (i:=6) nd rfl (Or.inl rfl) zG) (zC (jA PassesOwn.never rfl (jP (by rfl) T.b_range (zA (pv 0) zH)) (zZ (i:=7) nd rfl (Or.inl rfl)) (zC (vL (PW.pt (zCp (zCb (zCa (zQ D_law_number (hr.mono (by decide)) (by rfl) (zA (vA vD (pv 3) (pv 7) (fun _ _=>rfl)) zH)))) (zCp (zN zEs (vA vD (pv 3) (pv 7) (fun _ _=>rfl)) zG (zS _)) (zCv (zN zEx (vA vD (pv 3) (pv 7) (fun _ _=>rfl)) zG (zS _)))))) (zI (zT pe_bl)) zX) (zI (vL (zN jR (vA vD (pv 3) (pv 7) (fun _ _=>rfl)) zG (zS _)) (zC (zM (i:=5) nd rfl (Or.inl rfl) (zQ D_added (hr.mono (by decide)) (by rfl) (zA (pv 5) (zA (zQ D_turn (hr.mono (by decide)) (by rfl) (zA (pv 0) (zA (pv 7) zH))) zH)))) (zI (zM (i:=6) nd rfl (Or.inl rfl) (zO vX (pv 6) zG)))) zX)))) (zI (zT (pe_and (zAt jR (pv 6) (pv 1) (zS _)) (pe_one (zAt (zEi (hu64 hr)) (pv 5) (wI (zA zG (zA (wI (zA zG zH)) (zA zG zH)))) (zS _)))))))))))))),?_⟩
 refine⟨_,rfl,_,rfl,n,many,ps,rfl,n1,n2,hp,l2,fun ndue H1 sm1=>?_,fun dd t H1 b sm1 h1 st=>?_⟩
 ·refine⟨_,rfl,_,rfl,r,ps.map Prod.fst,many,rfl,sm1 _ _ hr1,pk,by omega,fun b1 HC1 e1 smC1=>⟨b1,rfl,jQ (fun b1t=>⟨_,rfl,_,rfl,_,rfl,_,_,rfl,rfl,r,ps.map Prod.fst,(n:Int)-many,rfl,smC1 _ _ (sm1 _ _ hr1),pk,by omega,fun due HC2 e2 smC2=>?_⟩) (fun b1f=>?_)⟩⟩
  ·have hdue:due=true↔Ps.Can (ps.map Prod.fst) many∧Ps.Can (ps.map Prod.fst) ((n:Int)-many):=⟨fun z=>⟨e1.mp b1t,e2.mp z⟩,fun z=>e2.mpr z.2⟩
   have smY:=smC1.trans smC2
   generalize HC2=HY at smY ⊢
   obtain⟨d2,ed,hd⟩:=two due hdue
   refine⟨fun σ HB=>HB=HY∧∃ d2:Bool,σ=[some (.int n),some (.int many),some (.ref r),some .non,some (.bl d2),none,none,none]∧(d2=true↔Due n (ps.map Prod.fst) many),?_,?_⟩
   ·refine⟨_,rfl,rfl,_,rfl,jQ (fun c1=>?_) (fun c1=>?_)⟩
    ·have z:n=1:=by have:=vint c1;omega
     rw[if_pos z] at ed
     refine⟨_,rfl,rfl,rfl,d2,?_,hd⟩
     rw[ed]
     have:decide (V.int many=V.int 0)=decide (many=0):=by by_cases m0:many=0 <;> simp [m0]
     rw[this];rfl
    ·have z:n≠1:=fun z=>zDj c1 (by rw[z];rfl)
     rw[if_neg z] at ed
     exact⟨rfl,d2,by rw[ed];rfl,hd⟩
   rintro σ HB ⟨rfl,d2,rfl,hd⟩
   have df:d2=false:=by cases d2 with | false=>rfl | true=>exact absurd (hd.mp rfl) ndue
   subst df
   refine⟨_,rfl,false,rfl,iteT ⟨_,rfl,rfl,?_⟩⟩
   exact q _ (sm1.trans smY)
  ·have hdue:false=true↔Ps.Can (ps.map Prod.fst) many∧Ps.Can (ps.map Prod.fst) ((n:Int)-many):=⟨fun z=>(by cases z),fun z=>absurd (e1.mpr z.1) b1f⟩
   have smY:=smC1
   generalize HC1=HY at smY ⊢
   obtain⟨d2,ed,hd⟩:=two false hdue
   refine⟨fun σ HB=>HB=HY∧∃ d2:Bool,σ=[some (.int n),some (.int many),some (.ref r),some .non,some (.bl d2),none,none,none]∧(d2=true↔Due n (ps.map Prod.fst) many),?_,?_⟩
   ·refine⟨_,rfl,rfl,_,rfl,jQ (fun c1=>?_) (fun c1=>?_)⟩
    ·have z:n=1:=by have:=vint c1;omega
     rw[if_pos z] at ed
     refine⟨_,rfl,rfl,rfl,d2,?_,hd⟩
     rw[ed]
     have:decide (V.int many=V.int 0)=decide (many=0):=by by_cases m0:many=0 <;> simp [m0]
     rw[this];rfl
    ·have z:n≠1:=fun z=>zDj c1 (by rw[z];rfl)
     rw[if_neg z] at ed
     exact⟨rfl,d2,by rw[ed];rfl,hd⟩
   rintro σ HB ⟨rfl,d2,rfl,hd⟩
   have df:d2=false:=by cases d2 with | false=>rfl | true=>exact absurd (hd.mp rfl) ndue
   subst df
   refine⟨_,rfl,false,rfl,iteT ⟨_,rfl,rfl,?_⟩⟩
   exact q _ (sm1.trans smY)
 have canm:Ps.Can (ps.map Prod.fst) many:=by
  rcases dd with ⟨z1,z2⟩ | ⟨_,z,_⟩
  ·subst z1
   have ps0:ps=[]:=Pt.w9 hp ⟨rfl,fun x hx=>(nomatch hx),.nil⟩
   rw[ps0];exact Ps.can0.mpr z2
  ·exact z
 ·refine⟨_,rfl,_,rfl,r,ps.map Prod.fst,many,rfl,sm1 _ _ hr1,pk,by omega,fun b1 HC1 e1 smC1=>⟨b1,rfl,jQ (fun b1t=>⟨_,rfl,_,rfl,_,rfl,_,_,rfl,rfl,r,ps.map Prod.fst,(n:Int)-many,rfl,smC1 _ _ (sm1 _ _ hr1),pk,by omega,fun due HC2 e2 smC2=>?_⟩) (fun b1f=>absurd (e1.mpr canm) b1f)⟩⟩
  ·have hdue:due=true↔Ps.Can (ps.map Prod.fst) many∧Ps.Can (ps.map Prod.fst) ((n:Int)-many):=⟨fun z=>⟨e1.mp b1t,e2.mp z⟩,fun z=>e2.mpr z.2⟩
   have smY:=smC1.trans smC2
   generalize HC2=HY at smY ⊢
   obtain⟨d2,ed,hd⟩:=two due hdue
   refine⟨fun σ HB=>HB=HY∧∃ d2:Bool,σ=[some (.int n),some (.int many),some (.ref r),some (.ref t),some (.bl d2),none,none,none]∧(d2=true↔Due n (ps.map Prod.fst) many),?_,?_⟩
   ·refine⟨_,rfl,rfl,_,rfl,jQ (fun c1=>?_) (fun c1=>?_)⟩
    ·have z:n=1:=by have:=vint c1;omega
     rw[if_pos z] at ed
     refine⟨_,rfl,rfl,rfl,d2,?_,hd⟩
     rw[ed]
     have:decide (V.int many=V.int 0)=decide (many=0):=by by_cases m0:many=0 <;> simp [m0]
     rw[this];rfl
    ·have z:n≠1:=fun z=>zDj c1 (by rw[z];rfl)
     rw[if_neg z] at ed
     exact⟨rfl,d2,by rw[ed];rfl,hd⟩
   rintro σ HB ⟨rfl,d2,rfl,hd⟩
   have df:d2=true:=hd.mpr dd
   subst df
   have hY:=smY _ _ h1
   have smH:=sm1.trans smY
   have lb:=st.len
   refine⟨_,rfl,true,rfl,iteF ?_⟩
   refine⟨_,rfl,_,_,_,true,rfl,.lst hY,zDt _,true,rfl,iteF ?_⟩
   refine⟨_,rfl,t,_,rfl,.inl (SqL.of hY),_,rfl,rfl,_,rfl,iteNS (by rw[zEw lb]) ?_⟩
   refine⟨0,rfl,fun r0 H2 sm2 f2 v2=>?_⟩
   have hY2:=sm2 _ _ hY
   refine⟨_,rfl,_,rfl,by omega,by omega,?_⟩
   rw[Int.toNat_natCast]
   have tp0:Vl.Tp n (fun x=>if x%n < ((0:Nat):Int) then Ld.at' b x else 0) 1 1 [0] 1:=by
    have w:=Vl.Tp.whole (J:=n) n1 0
    have e:(fun x=>(0:Int)*Vl.dlt n 0 x)=fun x=>if x%n < ((0:Nat):Int) then Ld.at' b x else 0:=funext fun x=>by
     rw[Int.zero_mul,if_neg (by have:=Int.emod_nonneg x (show (n:Int)≠0 by omega);omega)]
    rw[e] at w
    exact w
   refine jF (fun i σ H3=>zR H2 H3∧∃ (rt:Addr)(m B:Nat)(ws:List Int)(o1:Option V),σ=[some (.int n),some (.int many),some (.ref r),some (.ref t),some (.bl true),some (.ref rt),some (.int (Ld.S i (Ld.at' b))),o1]∧zEo H3 rt m ws 1∧Vl.Tp n (fun x=>if x%n < (i:Int) then Ld.at' b x else 0) 1 m ws 1∧Ld.Bd (2^B) ws∧B≤20+20*i)
    ⟨zR.refl _,r0,1,8,[0],none,rfl,v2,tp0,(fun x hx=>by rw[List.mem_singleton.mp hx];decide),by omega⟩ ?_ ?_
   ·rintro i σ H3 hi ⟨sm3,rt,m,B,ws,o1,rfl,v3,tp3,bd3,B3⟩
    have hY3:=sm3 _ _ hY2
    have ati:atI (b.map V.int) (i:Int)=some (.int (Ld.at' b i)):=atI_k (by omega) (by omega)
    have zo:=st.zo i
    refine⟨_,rfl,_,rfl,t,_,_,_,rfl,rfl,SqL.of hY3,ati,_,rfl,true,rfl,iteF ?_⟩
    refine⟨_,rfl,_,rfl,t,_,_,_,rfl,rfl,SqL.of hY3,ati,_,_,rfl,rfl,_,rfl,zBf (fun c=>by have:=dec c;omega) ?_⟩
    refine⟨_,rfl,_,rfl,t,_,_,_,rfl,rfl,SqL.of hY3,ati,_,_,rfl,rfl,_,rfl,zBf (fun c=>by have:=dec c;omega) ?_⟩
    refine⟨_,rfl,_,rfl,t,_,_,_,rfl,rfl,SqL.of hY3,ati,rfl,_,rfl,jQ (fun c=>?_) (fun c=>?_)⟩
    ·have one:=vint c
     refine⟨_,rfl,_,rfl,_,rfl,n,i,rfl,n1,n2,fun r4 H4 m4 ws4 c4 sm4 v4 tp4 bd4=>?_⟩
     have c41:c4=1:=by
      have h1:=tp4.pln.c1
      have h2:=Int.le_of_dvd (by decide) tp4.cb
      omega
     subst c41
     have bdB:Ld.Bd (2^(B+8)) ws:=fun x hx=>Nat.le_trans (bd3 x hx) (Nat.pow_le_pow_right (by decide) (by omega))
     have bdC:Ld.Bd (2^(B+8)) ws4:=fun x hx=>Nat.le_trans (bd4 x hx) (Nat.pow_le_pow_right (by decide) (by omega))
     refine⟨rt,r4,n,m,m4,B+8,1,ws,ws4,1,1,_,_,1,1,rfl,v3.same sm4,v4,tp3,tp4,n1,n2,by decide,by decide,bdB,bdC,by decide,by decide,by omega,by decide,fun r5 H5 M W D sm5 f5 v5 tp5 bd5 cb5 _=>?_⟩
     have D1:D=1:=by
      have h1:=tp5.pln.c1
      have h2:=Int.le_of_dvd (by decide) tp5.cb
      omega
     subst D1
     refine⟨_,rfl,_,_,rfl,rfl,?_⟩
     have e:(fun x=>(1:Int)*(if x%n < (i:Int) then Ld.at' b x else 0)+1*Ld.at' (Ld.hung n i 1) x)=fun x=>if x%n < ((i+1:Nat):Int) then Ld.at' b x else 0:=funext fun x=>by
      rw[dlt_step n1 lb hi x,one];simp only [Int.one_mul]
     rw[e,Int.one_mul] at tp5
     refine⟨(sm3.trans sm4).trans sm5,r5,M,8+(B+8+1+1),W,some (.int i),?_,v5,tp5,bd5,by omega⟩
     rw[show Ld.S (i+1) (Ld.at' b)=Ld.S i (Ld.at' b)+Ld.at' b i from rfl,one];rfl
    ·have zero:Ld.at' b i=0:=by rcases zo with z | z;exact z;exact absurd (decide_eq_true (congrArg V.int z)) c
     have e:(fun x=>if x%n < (i:Int) then Ld.at' b x else 0)=fun x=>if x%n < ((i+1:Nat):Int) then Ld.at' b x else 0:=funext fun x=>by
      rw[dlt_step n1 lb hi x,zero];omega
     rw[e] at tp3
     refine⟨sm3,rt,m,B,ws,some (.int i),?_,v3,tp3,bd3,by omega⟩
     rw[show Ld.S (i+1) (Ld.at' b)=Ld.S i (Ld.at' b)+Ld.at' b i from rfl,zero,Int.add_zero];rfl
   ·rintro σ H3 ⟨sm3,rt,m,B,ws,o1,rfl,v3,tp3,bd3,B3⟩
    have e:(fun x=>if x%n < (n:Int) then Ld.at' b x else 0)=Ld.at' b:=funext fun x=>if_pos (Int.emod_lt_of_pos x (by omega))
    rw[e] at tp3
    have z:=(Evn.zero_iff n1 (Ld.vM lb) tp3).mpr (Evn.zEn n1 hp l2 (Ld.vM lb) st.ev)
    have cnt:Ld.S n (Ld.at' b)=many:=by rw[← Sk.sum_S lb n1];exact st.sum
    refine⟨_,rfl,_,rfl,rfl,_,rfl,zDp (decide_eq_true (congrArg V.int cnt)) ?_⟩
    refine⟨_,rfl,(by show 1≤sizeLine;decide),fun t1 ht1=>⟨(by show 3≤sizeLine;decide),fun t2 ht2=>eqV_of (m':=1) (ws':=[0]) (c':=1) (v3.same (zK (zK (zR.refl _) ht1) ht2)) ⟨t1,zD,(zL (zJ zD ht2)).trans zD⟩ ?_⟩⟩
    rw[decide_eq_true ⟨by rw[z.1];rfl,z.2.1,rfl⟩]
    exact q _ (((smH.trans sm2).trans sm3).trans (zK (zK (zR.refl _) ht1) ht2))
theorem ok_law (T:Txt K mg t_MOST_HOLES t_LEAD_BITS)(B:Lb K mg base "crossing_rows" cc tT){f:Addr}{fd:FuncData}(F:Fun K "law" "law" s_law f fd):FnOk P w K mg base CX0 9 f fd ["script"] (spLaw K tT):=by
 have D_law_cell_at:=zEt (P:=P) (w:=w) (base:=base) T
 have D_law_of_two:=ok_law_of_two (P:=P) (w:=w) (base:=base) T
 have D_law_primes:=zAc (P:=P) (w:=w) (base:=base) T
 have D_law_setting_good:=zBu (P:=P) (w:=w) (base:=base) T
 have D_law_less_rows:=zDl (P:=P) (w:=w) (base:=base) T
 have D_value:=ok_value (P:=P) (w:=w) (base:=base) T
 have D_whole:=ok_whole (P:=P) (w:=w) (base:=base) T
 have D_stacked:=ok_stacked (P:=P) (w:=w) (base:=base) T B
 refine F.ok sc_law (fun vs H Q E h=>?_) (fun cdv A outer s H vs Q E hr h=>?_)
 ·obtain⟨_,_,rfl,_⟩:=h;rfl
 obtain⟨a,ns,rfl,hS,h63,lt,q⟩:=h
 have nd:=sc_law.nd
 refine⟨_,(zC (zM (i:=1) nd rfl (Or.inl rfl) (zQ D_law_of_two (hr.mono (by decide)) (by rfl) (zA (zQ D_law_cell_at (hr.mono (by decide)) (by rfl) (zA (pv 0) (zA zG zH))) zH))) (zC (zM (i:=2) nd rfl (Or.inl rfl) (zQ D_law_primes (hr.mono (by decide)) (by rfl) (zA (pv 1) zH))) (zC (zM (i:=3) nd rfl (Or.inl rfl) (zQ D_law_cell_at (hr.mono (by decide)) (by rfl) (zA (pv 0) (zA zG zH)))) (zC (vL (zCb (zCa (zQ D_law_setting_good (hr.mono (by decide)) (by rfl) (zA (pv 1) (zA (zO zAs (zO vK (pv 3) (zO vX (pv 1) zG)) zG) (zA (pv 2) zH)))))) (zI (zT pe_bl)) zX) (zC (zM (i:=4) nd rfl (Or.inl rfl) (zO op_rep (wE (zA zG zH)) (pv 1))) (zC (jA PassesOwn.never rfl (pi_range2 (by rfl) T.b_range (zA zG (zA (zW (zEc rfl) (by rfl) T.b_min L2.bi_min (zA (zW zP (by rfl) T.b_len L2.vY (zA (pv 0) zH)) (zA zG zH))) zH))) (zZ (i:=5) nd rfl (Or.inl rfl)) (zI (vL (zN (op_neD (hu64 hr)) (pv 2) (wE zH) (zS _)) (zC (zM (i:=6) nd rfl (Or.inl rfl) (vA vD (pv 2) (zO vK (zO vX (zO zY (vA vD (pv 0) (pv 5) (fun _ _=>rfl)) zG) (zO vO (pv 5) (pv 5))) (zW zP (by rfl) T.b_len L2.vY (zA (pv 2) zH))) (fun _ _=>rfl))) (zI (jA PassesOwn.never rfl (jP (by rfl) T.b_range (zA (pv 6) zH)) (zZ (i:=7) nd rfl (Or.inl rfl)) (zC (zM (i:=8) nd rfl (Or.inl rfl) (zO vK (zO vX (zO zY (vA vD (pv 0) (pv 5) (fun _ _=>rfl)) zG) (zO vO (pv 7) (zO zY (pv 1) (pv 6)))) (pv 1))) (zI (zDd (zO vX (vA vD (pv 4) (pv 8) (fun _ _=>rfl)) (zO vK (zO zY (vA vD (pv 0) (pv 5) (fun _ _=>rfl)) zG) (zO op_pow zG zG))) (zCu (pv 4) (pv 8) set_list))))))) zX))) (zC (zM (i:=9) nd rfl (Or.inl rfl) zG) (pss_mid (vL (zN jR (zO vK (zO zY (pv 3) zG) zG) zG (zS _)) (zI (zM (i:=9) nd rfl (Or.inl rfl) (zO vX zG (zO vK (zO zY (pv 3) zG) (zO op_pow zG zG))))) zX) (zC (zDd (zO vX (vA vD (pv 4) (zO vK (zO zY (pv 3) zG) (pv 1)) (fun _ _=>rfl)) (pv 9)) (zCu (pv 4) (zO vK (zO zY (pv 3) zG) (pv 1)) set_list)) (pss_mid (vL (zN jR (zO vK (zO zY (pv 3) zG) zG) zG (zS _)) (zC (zM (i:=8) nd rfl (Or.inl rfl) (zO vK (zO vX (zO vX (zO zY (pv 3) zG) zG) (zO vK (zO zY (pv 3) zG) (zW (call_max2 rfl) (by rfl) T.b_max L2.bi_max (zA zG (zA (zO zAs (pv 1) zG) zH))))) (pv 1))) (zC (zM (i:=10) nd rfl (Or.inl rfl) (zW (zEc rfl) (by rfl) T.b_min L2.bi_min (zA (vA vD (pv 4) (pv 8) (fun _ _=>rfl)) (zA (zO vX zG (zO vK (zO zY (pv 3) zG) (zO op_pow zG zG))) zH)))) (zC (zDd (zO zAs (vA vD (pv 4) (pv 8) (fun _ _=>rfl)) (pv 10)) (zCu (pv 4) (pv 8) set_list)) (zI (zDd (zO vX (vA vD (pv 4) (zO vK (zO zY (pv 3) zG) (pv 1)) (fun _ _=>rfl)) (pv 10)) (zCu (pv 4) (zO vK (zO zY (pv 3) zG) (pv 1)) set_list)))))) zX) (zC (zM (i:=11) nd rfl (Or.inl rfl) (zQ D_stacked (hr.mono (by decide)) (by rfl) (zA (zCh zAx (by rfl) T.b_list L2.zBs (zA (pv 4) zH)) zH))) (zC (vL (zN (op_neD (hu64 hr)) (zQ D_value (hr.mono (by decide)) (by rfl) (zA (pv 4) (zA zG zH))) (zQ D_whole (hr.mono (by decide)) (by rfl) (zA zG zH)) (zS _)) (zI (zT (zAt op_isN (pv 11) jL (zS _)))) zX) (zC (vL (zN zEx (pv 9) zG (zS _)) (zI (zT pe_bl)) zX) (zC (zM (i:=12) nd rfl (Or.inl rfl) (zQ D_law_less_rows (hr.mono (by decide)) (by rfl) (zA (pv 4) (zA (pv 11) zH)))) (zI (zT (pe_and (zAt (zEi (hu64 hr)) (pv 12) (zO op_rep (wE (zA zG zH)) (pv 1)) (zS _)) (pe_one (zAt (zEi (hu64 hr)) (vP (cap:=[]) (tgs:=["row"])  rfl rfl rfl (by decide +kernel) (by decide +kernel) (wT (by rfl)) wR wP (vQ (by decide)) (vZ (pv 11)) (fun C s H fp=>⟨(zZ (i:=0) (show (["row"]:List Str).Nodup by decide +kernel) rfl (Or.inl rfl) (Or.inr rfl)),(pts_one (zN zEs (vA (ix_tupK (K:=K) rfl) (pv 0) zG (fun _ _=>rfl)) zG (zS _))),(pv 0)⟩)) (wE zH) (zS _)))))))))))))))))))),?_⟩
 refine⟨_,rfl,a,ns,0,rfl,hS,Int.le_refl 0,fun v=>⟨v,rfl,fun n H0 ps n1 n2 hp l2 sm0=>?_⟩⟩
 have pw:CPow 10 60:=⟨by decide,by decide,by decide⟩
 have pw2:CPow 10 20:=⟨by decide,by decide,by decide⟩
 refine⟨_,rfl,n,rfl,n1,n2,fun r1 H1 ps1 sm1 f1 h1 hp1=>?_⟩
 have epp:=Pt.w9 hp1 hp
 subst epp
 have smA:=sm0.trans sm1
 refine⟨_,rfl,a,ns,1,rfl,smA.seq hS,(by decide),fun cell=>?_⟩
 have g0:=Int.emod_nonneg cell (show (n:Int)+3≠0 by omega)
 have g1:=Int.emod_lt_of_pos cell (show (0:Int) < (n:Int)+3 by omega)
 refine⟨_,rfl,_,rfl,_,rfl,_,_,rfl,rfl,_,_,rfl,rfl,(show (0:Int) < (n:Int)+3 by omega),_,_,rfl,rfl,_,rfl,n,cell%((n:Int)+3)-1,r1,ps1,rfl,h1,n1,n2,hp,l2,by omega,by omega,fun H2 sm2=>⟨true,rfl,iteF ?_⟩⟩
 have smB:=smA.trans sm2
 have h12:=sm2 _ _ h1
 refine⟨(by show 1≤sizeLine;decide),fun l hl=>⟨_,rfl,l,_,_,rfl,rfl,zD,by omega,by omega,(by show 1*_≤_;exact size2 (by omega)),fun du hdu=>?_⟩⟩
 rw[rep0]
 have ldu:l≠du:=zJ zD hdu
 have du0:H2 du=none:=by rwa [zL (Ne.symm ldu)] at hdu
 have sm0_:zR H2 (upd (upd H2 l (.lst [V.int 0])) du (.lst ((List.replicate n (0:Int)).map V.int))):=vE (vE (zR.refl H2) hl) du0
 have hd0:upd (upd H2 l (.lst [V.int 0])) du (.lst ((List.replicate n (0:Int)).map V.int)) du=some (.lst ((List.replicate n (0:Int)).map V.int)):=zD
 generalize upd (upd H2 l (.lst [V.int 0])) du (.lst ((List.replicate n (0:Int)).map V.int))=H3 at sm0_ hd0 ⊢
 have smC:=smB.trans sm0_
 have h13:=sm0_ _ _ h12
 have du1:H du=none:=smB.free du0
 have n1d:r1≠du:=fun z=>by rw[z,du0] at h12;cases h12
 have len2:(ps1.map Prod.fst).length≤2:=by rw[List.length_map];exact l2
 have ml:((ps1.map Prod.fst).map V.int).length=ps1.length:=by rw[List.length_map,List.length_map]
 obtain⟨M,hM,M0,M1⟩:∃ M:Nat,(if (42:Int) < ((ns.map V.int).length:Int) then (42:Int) else ((ns.map V.int).length:Int))=(M:Int)∧M≤63∧M≤ns.length:=by
  rw[List.length_map]
  split
  ·exact⟨42,rfl,by omega,by omega⟩
  ·exact⟨ns.length,rfl,h63,by omega⟩
 refine⟨_,rfl,a,_,rfl,.inl (smC.seq hS),_,_,rfl,2,(M:Int),by rw[← hM],⟨by omega,by omega,by omega,by omega⟩,?_⟩
 refine zEe (lo:=2) (n:=((M:Int)-2).toNat) (fun i σ H4=>zR H H4∧H4 r1=some (.lst ((ps1.map Prod.fst).map V.int))∧∃ (b:List Int)(o1 o2 o3 o4:Option V),σ=[some (.ref a),some (.int n),some (.ref r1),some (.int cell),some (.ref du),o1,o2,o3,o4,none,none,none,none]∧H4 du=some (.lst (b.map V.int))∧b.length=n∧(∀ x,0≤Ld.at' b x)∧Sk.Ev n (ps1.map Prod.fst) (Ld.at' b))
  ⟨smC,h13,List.replicate n 0,none,none,none,none,rfl,hd0,by simp,fun x=>by rw[Ld.zEm];exact Int.le_refl _,Sk.Ev.zero.congr fun x=>by rw[Ld.zEm]⟩ ?_ ?_
 ·rintro i σ H4 hi ⟨sm4,h14,b,o1,o2,o3,o4,rfl,hd4,lb,nn,ev⟩
  refine⟨_,rfl,Nat.zero_le _,fun e1 he1=>neL_of (ns:=ps1.map Prod.fst) (ms:=[]) (SqL.of ((zL (zJ h14 he1)).trans h14)) (SqL.of zD) ⟨_,rfl,?_⟩⟩
  have sm5:zR H4 (upd H4 e1 (.lst [])):=zK (zR.refl _) he1
  have h15:=sm5 _ _ h14
  have hd5:=sm5 _ _ hd4
  generalize upd H4 e1 (.lst [])=H5 at sm5 h15 hd5 ⊢
  have smD:=sm4.trans sm5
  refine jQ (fun c=>?_) (fun c=>⟨smD,h15,b,_,_,_,_,rfl,hd5,lb,nn,ev⟩)
  have pne:0 < ps1.length:=by
   rcases Nat.eq_zero_or_pos ps1.length with z | z
   ·rw[List.length_eq_zero_iff.mp z] at c;simp at c
   ·exact z
  have ki:(2:Int)+i=((2+i:Nat):Int):=by omega
  obtain⟨cv,hcv,_⟩:=atI_in (ns:=ns) (k:=2+(i:Int)) (by omega) (by omega)
  have at1:=zAz (a:=ps1.map Prod.fst) (n:=ps1.length) (by rw[List.length_map]) pne (cv/3+(2+(i:Int))*(2+(i:Int)))
  have pm:=Ld.at_mem (a:=ps1.map Prod.fst) (by rw[List.length_map];exact pne) (cv/3+(2+(i:Int))*(2+(i:Int)))
  refine⟨_,rfl,_,rfl,_,rfl,a,_,_,_,rfl,rfl,smD.seq hS,hcv,_,_,rfl,rfl,zU (by decide) (by decide),_,rfl,_,rfl,_,_,rfl,rfl,vF (by omega) (by omega),_,_,rfl,rfl,_,rfl,r1,_,rfl,.inl (SqL.of h15),_,_,rfl,rfl,by rw[ml];omega,r1,_,_,_,rfl,rfl,SqL.of h15,by rw[ml];exact at1,?_⟩
  generalize Ld.at' (ps1.map Prod.fst) (cv/3+(2+(i:Int))*(2+(i:Int)))=p at pm ⊢
  obtain⟨y,hy,ey⟩:=List.mem_map.mp pm
  have pd:p∣(n:Int):=by rw[← ey];exact ((Pt.vG hp y).mp hy).2.1
  have p2:2≤p:=by rw[← ey];exact (hp.row y hy).pr.1
  have pn:=Int.le_of_dvd (by omega) pd
  obtain⟨st,est,st0,enp,_⟩:=Rg.w5 n1 p2 pd
  have w0:=Int.emod_nonneg (cv/11) (show (10:Int)^(60:Int).toNat≠0 by decide +kernel)
  refine⟨_,rfl,p,rfl,by omega,by omega,?_⟩
  refine jF (fun j σ H6=>zR H H6∧H6 r1=some (.lst ((ps1.map Prod.fst).map V.int))∧∃ (b':List Int)(o3 o4:Option V),σ=[some (.ref a),some (.int n),some (.ref r1),some (.int cell),some (.ref du),some (.int (2+(i:Int))),some (.int p),o3,o4,none,none,none,none]∧H6 du=some (.lst (b'.map V.int))∧b'.length=n ∧
    ∀ x:Int,Ld.at' b' x=Ld.at' b x+(if (x-cv/7)%st=0∧((x-cv/7)%n)/st < (j:Int) then (cv/11%10^(60:Int).toNat) else 0))
   ⟨smD,h15,b,_,_,rfl,hd5,lb,Rg.own0 (by omega) st0 (cv/7) (cv/11%10^(60:Int).toNat) b⟩ ?_ ?_
  ·rintro j σ H6 hj ⟨sm6,h16,b',o3',o4',rfl,hb',lb',inv'⟩
   have jp:(j:Int) < p:=by omega
   refine⟨_,rfl,_,rfl,a,_,_,_,rfl,rfl,sm6.seq hS,hcv,_,_,rfl,rfl,zU (by decide) (by decide),_,rfl,_,rfl,_,rfl,_,_,rfl,rfl,zU (by omega) (by omega),_,_,rfl,rfl,vF (by omega) (by omega),_,_,rfl,rfl,_,rfl,_,_,rfl,rfl,by omega,?_⟩
   dsimp only
   rw[est]
   refine⟨_,rfl,_,rfl,du,_,_,_,rfl,rfl,SqL.of hb',zAz lb' (by omega) _,_,rfl,_,rfl,a,_,_,_,rfl,rfl,sm6.seq hS,hcv,_,_,rfl,rfl,zU (by decide) (by decide),_,_,rfl,rfl,pw,_,_,rfl,rfl,(show (0:Int) < 10^(60:Int).toNat by decide +kernel),_,_,rfl,rfl,_,rfl,_,rfl,du,_,_,_,rfl,rfl,hb',zAy (zEw lb') (by omega) _,?_⟩
   rw[set_int]
   exact⟨vE sm6 du1,(zL n1d).trans h16,_,_,_,rfl,zD,by rw[List.length_set,lb'],Rg.own1 st0 enp (by omega) lb' inv'⟩
  ·rintro σ H6 ⟨sm6,h16,b',o3',o4',rfl,hb',lb',inv'⟩
   have rv:∀ x,Ld.at' b' x=Ld.at' b x+Rg.rv n (p,cv/7,cv/11%10^(60:Int).toNat) x:=fun x=>by
    rw[Rg.own2 st0 (show 0 < p.toNat by omega) enp inv']
    unfold Rg.rv
    rw[est]
   refine⟨sm6,h16,b',_,_,_,_,rfl,hb',lb',fun x=>?_,(ev.add (Sk.Ev.rv len2 (r:=(p,cv/7,cv/11%10^(60:Int).toNat)) pm)).congr fun x=>(rv x).symm⟩
   rw[rv]
   have:=nn x
   have:0≤Rg.rv n (p,cv/7,cv/11%10^(60:Int).toNat) x:=by
    unfold Rg.rv
    split
    ·exact w0
    ·exact Int.le_refl 0
   omega
 rintro σ H4 ⟨sm4,h14,b,o1,o2,o3,o4,rfl,hd4,lb,nn,ev⟩
 have v0:=Int.emod_nonneg (cell/189) (show (10:Int)^(20:Int).toNat≠0 by decide +kernel)
 refine⟨fun σ H5=>H5=H4∧∃ bent:Int,σ=[some (.ref a),some (.int n),some (.ref r1),some (.int cell),some (.ref du),o1,o2,o3,o4,some (.int bent),none,none,none]∧0≤bent∧(bent=0∨cell/63%3=1),?_,?_⟩
 ·refine⟨_,rfl,_,_,rfl,rfl,zU (by decide) (by decide),_,_,rfl,rfl,(by show (0:Int) < _;decide),rfl,_,rfl,jQ (fun c=>?_) (fun c=>⟨rfl,0,rfl,by decide,.inl rfl⟩)⟩
  exact⟨_,rfl,_,_,rfl,rfl,zU (by decide) (by decide),_,_,rfl,rfl,pw2,_,_,rfl,rfl,(show (0:Int) < 10^(20:Int).toNat by decide +kernel),_,_,rfl,rfl,rfl,_,rfl,by omega,.inr (vint c)⟩
 rintro σ H5 ⟨rfl,bent,rfl,be0,bec⟩
 refine⟨_,rfl,_,rfl,_,_,rfl,rfl,zU (by decide) (by decide),_,rfl,_,_,rfl,rfl,(show (0:Int) < n by omega),du,_,_,_,rfl,rfl,SqL.of hd4,zAz lb (by omega) _,_,rfl,_,_,rfl,rfl,_,rfl,_,rfl,_,_,rfl,rfl,zU (by decide) (by decide),_,rfl,_,_,rfl,rfl,(show (0:Int) < n by omega),du,_,_,_,rfl,rfl,hd4,zAy (zEw lb) (by omega) _,?_⟩
 rw[set_int]
 obtain⟨bb,hbb,lbb,vbb⟩:∃ bb:List Int,bb=b.set ((cell/5)%(n:Int)).toNat (Ld.at' b (cell/5)+bent)∧bb.length=n∧∀ x,Ld.at' bb x=Ld.at' b x+(if x%n=(cell/5)%n then bent else 0):=⟨_,rfl,by rw[List.length_set,lb],fun x=>at_add1 lb (by omega) (cell/5) bent x⟩
 rw[← hbb]
 have sm6:zR H (upd H5 du (.lst (bb.map V.int))):=vE sm4 du1
 have hd6:upd H5 du (.lst (bb.map V.int)) du=some (.lst (bb.map V.int)):=zD
 have h16:upd H5 du (.lst (bb.map V.int)) r1=some (.lst ((ps1.map Prod.fst).map V.int)):=(zL n1d).trans h14
 generalize upd H5 du (.lst (bb.map V.int))=H6 at sm6 hd6 h16 ⊢
 have nbb:∀ x,0≤Ld.at' bb x:=fun x=>by rw[vbb];have:=nn x;split <;> omega
 refine⟨fun σ H7=>zR H H7∧∃ (b7:List Int)(p1 p2 p3 p4 p5:Option V),σ=[some (.ref a),some (.int n),some (.ref r1),some (.int cell),some (.ref du),p1,p2,p3,p4,some (.int bent),p5,none,none]∧H7 du=some (.lst (b7.map V.int))∧b7.length=n∧(∀ x,0≤Ld.at' b7 x)∧(¬ bent=0→∀ x,Ld.at' b7 x=Ld.at' b x+(if x%n=(cell/5)%n then bent else 0)),?_,?_⟩
 ·refine⟨_,rfl,_,_,rfl,rfl,zU (by decide) (by decide),_,_,rfl,rfl,(by show (0:Int) < _;decide),rfl,_,rfl,jQ (fun c=>?_) (fun c=>⟨sm6,bb,_,_,_,_,_,rfl,hd6,lbb,nbb,fun _=>vbb⟩)⟩
  have c2:=vint c
  have b0:bent=0:=by rcases bec with z | z;exact z;omega
  obtain⟨mx,hmx,mx1,mx2⟩:∃ mx:Int,(if (n:Int)-1 > 1 then (n:Int)-1 else 1)=mx∧1≤mx∧mx≤420:=⟨_,rfl,by split <;> omega,by split <;> omega⟩
  refine⟨_,rfl,_,_,rfl,rfl,zU (by decide) (by decide),_,_,rfl,rfl,_,rfl,_,_,rfl,rfl,zU (by decide) (by decide),_,rfl,_,_,rfl,rfl,_,_,rfl,?_⟩
  rw[hmx]
  refine⟨_,_,rfl,rfl,(show (0:Int) < mx by omega),_,_,rfl,rfl,_,rfl,_,_,rfl,rfl,(show (0:Int) < n by omega),?_⟩
  generalize cell/5+1+cell/315%mx=wh
  refine⟨_,rfl,_,rfl,du,_,_,_,rfl,rfl,SqL.of hd6,zAz lbb (by omega) _,_,rfl,_,_,rfl,rfl,zU (by decide) (by decide),_,_,rfl,rfl,pw2,_,_,rfl,rfl,(show (0:Int) < 10^(20:Int).toNat by decide +kernel),_,_,rfl,rfl,_,_,rfl,?_⟩
  obtain⟨mu,hmu,mu0,mu1⟩:∃ mu:Int,(if 1+cell/189%10^(20:Int).toNat < Ld.at' bb wh then 1+cell/189%10^(20:Int).toNat else Ld.at' bb wh)=mu∧0≤mu∧mu≤Ld.at' bb wh:=⟨_,rfl,by have:=nbb wh;split <;> omega,by split <;> omega⟩
  rw[hmu]
  refine⟨_,rfl,_,rfl,du,_,_,_,rfl,rfl,SqL.of hd6,zAz lbb (by omega) _,_,rfl,_,_,rfl,rfl,_,rfl,_,rfl,du,_,_,_,rfl,rfl,hd6,zAy (zEw lbb) (by omega) _,?_⟩
  rw[set_int]
  obtain⟨b8,hb8,lb8,vb8⟩:∃ b8:List Int,b8=bb.set (wh%(n:Int)).toNat (Ld.at' bb wh-mu)∧b8.length=n∧∀ x,Ld.at' b8 x=Ld.at' bb x+(if x%n=wh%n then -mu else 0):=⟨_,rfl,by rw[List.length_set,lbb],fun x=>by rw[show Ld.at' bb wh-mu=Ld.at' bb wh + -mu by omega];exact at_add1 lbb (by omega) wh (-mu) x⟩
  rw[← hb8]
  have hd8:upd H6 du (.lst (b8.map V.int)) du=some (.lst (b8.map V.int)):=zD
  have sm8:zR H (upd H6 du (.lst (b8.map V.int))):=vE sm6 du1
  generalize upd H6 du (.lst (b8.map V.int))=H8 at hd8 sm8 ⊢
  have nb8:∀ x,0≤Ld.at' b8 x:=fun x=>by
   rw[vb8]
   have:=nbb x
   split
   ·have e:Ld.at' bb x=Ld.at' bb wh:=Ld.vM lbb x wh (by assumption)
    omega
   ·omega
  refine⟨_,rfl,_,rfl,_,_,rfl,rfl,zU (by decide) (by decide),_,rfl,_,_,rfl,rfl,(show (0:Int) < n by omega),du,_,_,_,rfl,rfl,SqL.of hd8,zAz lb8 (by omega) _,_,rfl,_,_,rfl,rfl,_,rfl,_,rfl,_,_,rfl,rfl,zU (by decide) (by decide),_,rfl,_,_,rfl,rfl,(show (0:Int) < n by omega),du,_,_,_,rfl,rfl,hd8,zAy (zEw lb8) (by omega) _,?_⟩
  rw[set_int]
  refine⟨vE sm8 du1,_,_,_,_,_,_,rfl,zD,by rw[List.length_set,lb8],fun x=>?_,fun z=>absurd b0 z⟩
  rw[at_add1 lb8 (by omega) (cell/5) mu x]
  have:=nb8 x
  split <;> omega
 rintro σ H7 ⟨sm7,b7,p1,p2,p3,p4,p5,rfl,hd7,lb7,nb7,bn7⟩
 have lt7:LT tT H7:=lt.same sm7
 refine⟨_,rfl,du,_,rfl,.inl (SqL.of hd7),fun ha hha=>?_⟩
 have sm8:zR H7 (upd H7 ha (.lst (b7.map V.int))):=zK (zR.refl _) hha
 have hh8:upd H7 ha (.lst (b7.map V.int)) ha=some (.lst (b7.map V.int)):=zD
 generalize upd H7 ha (.lst (b7.map V.int))=H8 at sm8 hh8 ⊢
 have lt8:LT tT H8:=lt7.same sm8
 have hd8:=sm8 _ _ hd7
 have per7:=Ld.vM lb7
 obtain⟨Bq,hBq⟩:=Vl.bd_ex b7
 have nnb:∀ x∈b7,0≤x:=fun x hx=>by
  obtain⟨k,hk,e⟩:=List.getElem_of_mem hx
  have:=nb7 k
  have e2:Ld.at' b7 k=x:=by
   unfold Ld.at'
   rw[Int.emod_eq_of_lt (by omega) (by omega),Int.toNat_natCast,List.getD,List.getElem?_eq_getElem hk];exact e
  omega
 refine⟨ha,b7,n,ps1,rfl,SqL.of hh8,lb7,n1,n2,hp,l2,lt8,fun bad H9 sm9 lt9=>?_,fun _ ev7 t H9 rows sm9 lt9 f9 tr9 rl9 rok nod rv=>?_⟩
 ·have nev:¬ Sk.Ev n (ps1.map Prod.fst) (Ld.at' b7):=by
   rcases bad with ⟨x,hx,neg⟩ | z
   ·have:=nnb x hx;omega
   ·exact z
  have hd9:=sm9.lst lt8.tab hd8
  refine⟨_,rfl,du,b7,n,Bq,1,1,rfl,.inl (SqL.of hd9),lb7,n1,n2,by decide,by decide,by decide,hBq,fun tv Hv m ws c smv fv vv tpv bdv=>⟨0,rfl,fun rw' Hw smw fw vw=>neV_of (vv.same smw) vw ⟨_,rfl,?_⟩⟩⟩
  have ne:¬ ((m:Int)=1∧ws=[0]∧c=1):=fun z=>nev (Evn.ev_of_rst n1 hp l2 per7 ((Evn.zero_iff n1 per7 tpv).mp ⟨by omega,z.2.1,z.2.2⟩))
  rw[decide_eq_false ne]
  refine iteT ⟨_,rfl,rfl,?_⟩
  rw[decide_eq_true rfl]
  exact q _
 ·have hd9:=sm9.lst lt8.tab hd8
  have r0:=Evn.zEn n1 hp l2 per7 ev7
  refine⟨_,rfl,du,b7,n,Bq,1,1,rfl,.inl (SqL.of hd9),lb7,n1,n2,by decide,by decide,by decide,hBq,fun tv Hv m ws c smv fv vv tpv bdv=>⟨0,rfl,fun rw' Hw smw fw vw=>neV_of (vv.same smw) vw ⟨_,rfl,?_⟩⟩⟩
  have eq0:=(Evn.zero_iff n1 per7 tpv).mpr r0
  rw[decide_eq_true (show (m:Int)=1∧ws=[0]∧c=1 from ⟨by rw[eq0.1];rfl,eq0.2.1,eq0.2.2⟩)]
  refine iteF ?_
  have b0:bent=0:=by
   rcases Decidable.em (bent=0) with z | z
   ·exact z
   ·exfalso
    have e:=funext (bn7 z)
    rw[e] at r0
    exact Evn.bent n1 (Evn.zEn n1 hp l2 (Ld.vM lb) ev) (cell/5) z r0
  refine⟨_,rfl,_,_,rfl,rfl,_,rfl,zBf (fun c'=>by have:=dec c';omega) ?_⟩
  have smW:=smv.trans smw
  have hdW:=smW _ _ hd9
  have trW:=tr9.same smW
  have zl:(List.replicate n (0:Int)).length=n:=by simp
  refine⟨_,rfl,_,rfl,du,t,b7,List.replicate n 0,n,rows,ps1,rfl,SqL.of hdW,lb7,zl,n1,n2,trW,hp,⟨fun z hz=>⟨(rok z hz).1,(rok z hz).2.1,(rok z hz).2.2.1,by have:=(rok z hz).2.2.2;omega⟩,nod,fun x=>by rw[Ld.zEm,Int.zero_add,rv]⟩,by omega,fun tl Hl sml hl=>?_⟩
  have trL:=trW.same sml
  refine⟨_,rfl,(by show 1≤sizeLine;decide),fun l9 hl9=>⟨_,rfl,l9,_,_,rfl,rfl,zD,by omega,by omega,(by show 1*_≤_;exact size2 (by omega)),fun d9 hd9'=>?_⟩⟩
  rw[rep0]
  have smQ:zR Hl (upd (upd Hl l9 (.lst [V.int 0])) d9 (.lst ((List.replicate n (0:Int)).map V.int))):=zK (zK (zR.refl _) hl9) hd9'
  refine zFq (ns:=List.replicate n 0) (ms:=List.replicate n 0) (SqL.of (smQ _ _ hl)) (SqL.of zD) ?_
  rw[decide_eq_true rfl]
  refine⟨_,rfl,zDp rfl ?_⟩
  have trQ:=trL.same smQ
  generalize upd (upd Hl l9 (.lst [V.int 0])) d9 (.lst ((List.replicate n (0:Int)).map V.int))=HQ at trQ ⊢
  obtain⟨rs,hrs,prs⟩:=trQ
  have rl:=Paired.length prs
  refine⟨_,rfl,t,rfl,⟨_,SqL.of hrs⟩,?_⟩
  refine wG (K:=K) (xs:=rs.map V.ref) (fun i ys HR=>HR=HQ∧ys=[]) ⟨rfl,rfl⟩ (fun i ys HR _ z=>by rw[z.1];exact SqL.of hrs) (fun i ys HR _ z=>by rw[z.2];decide) ?_ ?_
  ·rintro i xv ys HR hx ⟨rfl,rfl⟩
   obtain⟨ad,rfl,ea⟩:=zDe hx
   obtain⟨⟨p,hole,many⟩,ep,had⟩:=v8 prs ea
   have i2:atI [V.int p,V.int hole,V.int many] 2=some (.int many):=rfl
   have m1:=(rok _ (List.mem_of_getElem? ep)).2.2.2
   exact⟨_,rfl,ad,_,_,_,rfl,rfl,SqT.of had,i2,_,_,rfl,rfl,_,rfl,zBf (fun c'=>by have:=dec c';change 1≤many at m1;omega) ⟨rfl,rfl⟩⟩
  rintro ys HR ⟨rfl,rfl⟩ D hD
  refine⟨Nat.zero_le _,fun e2 he2=>zFq (ns:=[]) (ms:=[]) (SqL.of ((zL (zJ zD he2)).trans zD)) (SqL.of zD) ?_⟩
  rw[decide_eq_true rfl]
  exact q _
end
theorem all_mk {l:PySem.W.OpenLaw}{w:World}{K:PySem.W.Frag}{h:Heap}{mg:Str→Option Value}{fa f0 f1 f2 f3 f4 f5 f6 f7 f8 f9 f10 f11 f12 f13 f14 f15 f16 f17 f18 f19 f20 f21 f22 f23 f24 f25 f26 f27 f28 f29 f30 f31 f32 f33 f34 f35 f36 f37 f38 f39 f40 f41 f42 f43 f44:Addr}(X:K.In h)(G:h.Ns mainGlobals mg)(hfa:mg "law"=some (.ref fa))
  {od0 an0 od1 an1 od2 an2 od3 an3 od4 an4 od5 an5 od6 an6 od7 an7 od8 an8 od9 an9 od10 an10 od11 an11 od12 an12 od13 an13 od14 an14 od15 an15 od16 an16 od17 an17 od18 an18 od19 an19 od20 an20 od21 an21 od22 an22 od23 an23 od24 an24 od25 an25 od26 an26 od27 an27 od28 an28 od29 an29 od30 an30 od31 an31 od32 an32 od33 an33 od34 an34 od35 an35 od36 an36 od37 an37 od38 an38 od39 an39 od40 an40 od41 an41 od42 an42 od43 an43 od44 an44:Option Addr}{sl0 sl1 sl2 sl3 sl4 sl5 sl6 sl7 sl8 sl9 sl10 sl11 sl12 sl13 sl14 sl15 sl16 sl17 sl18 sl19 sl20 sl21 sl22 sl23 sl24 sl25 sl26 sl27 sl28 sl29 sl30 sl31 sl32 sl33 sl34 sl35 sl36 sl37 sl38 sl39 sl40 sl41 sl42 sl43 sl44:Array (Option Value)}{oc0 kV0 dc0 pm0 cd0 ct0 oc1 kV1 dc1 pm1 cd1 ct1 oc2 kV2 dc2 pm2 cd2 ct2 oc3 kV3 dc3 pm3 cd3 ct3 oc4 kV4 dc4 pm4 cd4 ct4 oc5 kV5 dc5 pm5 cd5 ct5 oc6 kV6 dc6 pm6 cd6 ct6 oc7 kV7 dc7 pm7 cd7 ct7 oc8 kV8 dc8 pm8 cd8 ct8 oc9 kV9 dc9 pm9 cd9 ct9 oc10 kV10 dc10 pm10 cd10 ct10 oc11 kV11 dc11 pm11 cd11 ct11 oc12 kV12 dc12 pm12 cd12 ct12 oc13 kV13 dc13 pm13 cd13 ct13 oc14 kV14 dc14 pm14 cd14 ct14 oc15 kV15 dc15 pm15 cd15 ct15 oc16 kV16 dc16 pm16 cd16 ct16 oc17 kV17 dc17 pm17 cd17 ct17 oc18 kV18 dc18 pm18 cd18 ct18 oc19 kV19 dc19 pm19 cd19 ct19 oc20 kV20 dc20 pm20 cd20 ct20 oc21 kV21 dc21 pm21 cd21 ct21 oc22 kV22 dc22 pm22 cd22 ct22 oc23 kV23 dc23 pm23 cd23 ct23 oc24 kV24 dc24 pm24 cd24 ct24 oc25 kV25 dc25 pm25 cd25 ct25 oc26 kV26 dc26 pm26 cd26 ct26 oc27 kV27 dc27 pm27 cd27 ct27 oc28 kV28 dc28 pm28 cd28 ct28 oc29 kV29 dc29 pm29 cd29 ct29 oc30 kV30 dc30 pm30 cd30 ct30 oc31 kV31 dc31 pm31 cd31 ct31 oc32 kV32 dc32 pm32 cd32 ct32 oc33 kV33 dc33 pm33 cd33 ct33 oc34 kV34 dc34 pm34 cd34 ct34 oc35 kV35 dc35 pm35 cd35 ct35 oc36 kV36 dc36 pm36 cd36 ct36 oc37 kV37 dc37 pm37 cd37 ct37 oc38 kV38 dc38 pm38 cd38 ct38 oc39 kV39 dc39 pm39 cd39 ct39 oc40 kV40 dc40 pm40 cd40 ct40 oc41 kV41 dc41 pm41 cd41 ct41 oc42 kV42 dc42 pm42 cd42 ct42 oc43 kV43 dc43 pm43 cd43 ct43 oc44 kV44 dc44 pm44 cd44 ct44:Value}
  (a0:PySem.W.nsIn K mainGlobals "divisor"=some (some (.ref f0)))(l0:K.lookup f0=some ⟨oc0,od0,.func (PySem.W.fnOf "divisor" "divisor" (zF j7) (zE j7) (zB j7) .none kV0 dc0 pm0 an0 cd0 ct0),sl0⟩)(c0:PySem.W.codeIn K cd0 "divisor"=true)(k0:PySem.W.keepIn K (.ref f0)=true)
  (a1:PySem.W.nsIn K mainGlobals "joint"=some (some (.ref f1)))(l1:K.lookup f1=some ⟨oc1,od1,.func (PySem.W.fnOf "joint" "joint" (zF zCo) (zE zCo) (zB zCo) .none kV1 dc1 pm1 an1 cd1 ct1),sl1⟩)(c1:PySem.W.codeIn K cd1 "joint"=true)(k1:PySem.W.keepIn K (.ref f1)=true)
  (a2:PySem.W.nsIn K mainGlobals "euclid"=some (some (.ref f2)))(l2:K.lookup f2=some ⟨oc2,od2,.func (PySem.W.fnOf "euclid" "euclid" (zF zBd) (zE zBd) (zB zBd) .none kV2 dc2 pm2 an2 cd2 ct2),sl2⟩)(c2:PySem.W.codeIn K cd2 "euclid"=true)(k2:PySem.W.keepIn K (.ref f2)=true)
  (a3:PySem.W.nsIn K mainGlobals "turned_on"=some (some (.ref f3)))(l3:K.lookup f3=some ⟨oc3,od3,.func (PySem.W.fnOf "turned_on" "turned_on" (zF wX) (zE wX) (zB wX) .none kV3 dc3 pm3 an3 cd3 ct3),sl3⟩)(c3:PySem.W.codeIn K cd3 "turned_on"=true)(k3:PySem.W.keepIn K (.ref f3)=true)
  (a4:PySem.W.nsIn K mainGlobals "next_turn"=some (some (.ref f4)))(l4:K.lookup f4=some ⟨oc4,od4,.func (PySem.W.fnOf "next_turn" "next_turn" (zF wY) (zE wY) (zB wY) .none kV4 dc4 pm4 an4 cd4 ct4),sl4⟩)(c4:PySem.W.codeIn K cd4 "next_turn"=true)(k4:PySem.W.keepIn K (.ref f4)=true)
  (a5:PySem.W.nsIn K mainGlobals "sure_turn"=some (some (.ref f5)))(l5:K.lookup f5=some ⟨oc5,od5,.func (PySem.W.fnOf "sure_turn" "sure_turn" (zF jN) (zE jN) (zB jN) .none kV5 dc5 pm5 an5 cd5 ct5),sl5⟩)(c5:PySem.W.codeIn K cd5 "sure_turn"=true)(k5:PySem.W.keepIn K (.ref f5)=true)
  (a6:PySem.W.nsIn K mainGlobals "parts"=some (some (.ref f6)))(l6:K.lookup f6=some ⟨oc6,od6,.func (PySem.W.fnOf "parts" "parts" (zF zCt) (zE zCt) (zB zCt) .none kV6 dc6 pm6 an6 cd6 ct6),sl6⟩)(c6:PySem.W.codeIn K cd6 "parts"=true)(k6:PySem.W.keepIn K (.ref f6)=true)
  (a7:PySem.W.nsIn K mainGlobals "prime_power"=some (some (.ref f7)))(l7:K.lookup f7=some ⟨oc7,od7,.func (PySem.W.fnOf "prime_power" "prime_power" (zF wC) (zE wC) (zB wC) .none kV7 dc7 pm7 an7 cd7 ct7),sl7⟩)(c7:PySem.W.codeIn K cd7 "prime_power"=true)(k7:PySem.W.keepIn K (.ref f7)=true)
  (a8:PySem.W.nsIn K mainGlobals "back"=some (some (.ref f8)))(l8:K.lookup f8=some ⟨oc8,od8,.func (PySem.W.fnOf "back" "back" (zF zFc) (zE zFc) (zB zFc) .none kV8 dc8 pm8 an8 cd8 ct8),sl8⟩)(c8:PySem.W.codeIn K cd8 "back"=true)(k8:PySem.W.keepIn K (.ref f8)=true)
  (a9:PySem.W.nsIn K mainGlobals "laid"=some (some (.ref f9)))(l9:K.lookup f9=some ⟨oc9,od9,.func (PySem.W.fnOf "laid" "laid" (zF zFp) (zE zFp) (zB zFp) .none kV9 dc9 pm9 an9 cd9 ct9),sl9⟩)(c9:PySem.W.codeIn K cd9 "laid"=true)(k9:PySem.W.keepIn K (.ref f9)=true)
  (a10:PySem.W.nsIn K mainGlobals "lay_ring"=some (some (.ref f10)))(l10:K.lookup f10=some ⟨oc10,od10,.func (PySem.W.fnOf "lay_ring" "lay_ring" (zF jE) (zE jE) (zB jE) .none kV10 dc10 pm10 an10 cd10 ct10),sl10⟩)(c10:PySem.W.codeIn K cd10 "lay_ring"=true)(k10:PySem.W.keepIn K (.ref f10)=true)
  (a11:PySem.W.nsIn K mainGlobals "ring_holes"=some (some (.ref f11)))(l11:K.lookup f11=some ⟨oc11,od11,.func (PySem.W.fnOf "ring_holes" "ring_holes" (zF wL) (zE wL) (zB wL) .none kV11 dc11 pm11 an11 cd11 ct11),sl11⟩)(c11:PySem.W.codeIn K cd11 "ring_holes"=true)(k11:PySem.W.keepIn K (.ref f11)=true)
  (a12:PySem.W.nsIn K mainGlobals "prime_sum"=some (some (.ref f12)))(l12:K.lookup f12=some ⟨oc12,od12,.func (PySem.W.fnOf "prime_sum" "prime_sum" (zF w4) (zE w4) (zB w4) .none kV12 dc12 pm12 an12 cd12 ct12),sl12⟩)(c12:PySem.W.codeIn K cd12 "prime_sum"=true)(k12:PySem.W.keepIn K (.ref f12)=true)
  (a13:PySem.W.nsIn K mainGlobals "few_primes"=some (some (.ref f13)))(l13:K.lookup f13=some ⟨oc13,od13,.func (PySem.W.fnOf "few_primes" "few_primes" (zF wK) (zE wK) (zB wK) .none kV13 dc13 pm13 an13 cd13 ct13),sl13⟩)(c13:PySem.W.codeIn K cd13 "few_primes"=true)(k13:PySem.W.keepIn K (.ref f13)=true)
  (a14:PySem.W.nsIn K mainGlobals "one_prime_sum"=some (some (.ref f14)))(l14:K.lookup f14=some ⟨oc14,od14,.func (PySem.W.fnOf "one_prime_sum" "one_prime_sum" (zF vU) (zE vU) (zB vU) .none kV14 dc14 pm14 an14 cd14 ct14),sl14⟩)(c14:PySem.W.codeIn K cd14 "one_prime_sum"=true)(k14:PySem.W.keepIn K (.ref f14)=true)
  (a15:PySem.W.nsIn K mainGlobals "stacked"=some (some (.ref f15)))(l15:K.lookup f15=some ⟨oc15,od15,.func (PySem.W.fnOf "stacked" "stacked" (zF jZ) (zE jZ) (zB jZ) .none kV15 dc15 pm15 an15 cd15 ct15),sl15⟩)(c15:PySem.W.codeIn K cd15 "stacked"=true)(k15:PySem.W.keepIn K (.ref f15)=true)
  (a16:PySem.W.nsIn K mainGlobals "likely_rows"=some (some (.ref f16)))(l16:K.lookup f16=some ⟨oc16,od16,.func (PySem.W.fnOf "likely_rows" "likely_rows" (zF v9) (zE v9) (zB v9) .none kV16 dc16 pm16 an16 cd16 ct16),sl16⟩)(c16:PySem.W.codeIn K cd16 "likely_rows"=true)(k16:PySem.W.keepIn K (.ref f16)=true)
  (a17:PySem.W.nsIn K mainGlobals "crossing_rows"=some (some (.ref f17)))(l17:K.lookup f17=some ⟨oc17,od17,.func (PySem.W.fnOf "crossing_rows" "crossing_rows" (zF vR) (zE vR) (zB vR) .none kV17 dc17 pm17 an17 cd17 ct17),sl17⟩)(c17:PySem.W.codeIn K cd17 "crossing_rows"=true)(k17:PySem.W.keepIn K (.ref f17)=true)
  (a18:PySem.W.nsIn K mainGlobals "setting"=some (some (.ref f18)))(l18:K.lookup f18=some ⟨oc18,od18,.func (PySem.W.fnOf "setting" "setting" (zF j5) (zE j5) (zB j5) .none kV18 dc18 pm18 an18 cd18 ct18),sl18⟩)(c18:PySem.W.codeIn K cd18 "setting"=true)(k18:PySem.W.keepIn K (.ref f18)=true)
  (a19:PySem.W.nsIn K mainGlobals "ring_starts"=some (some (.ref f19)))(l19:K.lookup f19=some ⟨oc19,od19,.func (PySem.W.fnOf "ring_starts" "ring_starts" (zF wD) (zE wD) (zB wD) .none kV19 dc19 pm19 an19 cd19 ct19),sl19⟩)(c19:PySem.W.codeIn K cd19 "ring_starts"=true)(k19:PySem.W.keepIn K (.ref f19)=true)
  (a20:PySem.W.nsIn K mainGlobals "crossing_last"=some (some (.ref f20)))(l20:K.lookup f20=some ⟨oc20,od20,.func (PySem.W.fnOf "crossing_last" "crossing_last" (zF vV) (zE vV) (zB vV) .none kV20 dc20 pm20 an20 cd20 ct20),sl20⟩)(c20:PySem.W.codeIn K cd20 "crossing_last"=true)(k20:PySem.W.keepIn K (.ref f20)=true)
  (a21:PySem.W.nsIn K mainGlobals "hung"=some (some (.ref f21)))(l21:K.lookup f21=some ⟨oc21,od21,.func (PySem.W.fnOf "hung" "hung" (zF zFd) (zE zFd) (zB zFd) .none kV21 dc21 pm21 an21 cd21 ct21),sl21⟩)(c21:PySem.W.codeIn K cd21 "hung"=true)(k21:PySem.W.keepIn K (.ref f21)=true)
  (a22:PySem.W.nsIn K mainGlobals "plus"=some (some (.ref f22)))(l22:K.lookup f22=some ⟨oc22,od22,.func (PySem.W.fnOf "plus" "plus" (zF zFr) (zE zFr) (zB zFr) .none kV22 dc22 pm22 an22 cd22 ct22),sl22⟩)(c22:PySem.W.codeIn K cd22 "plus"=true)(k22:PySem.W.keepIn K (.ref f22)=true)
  (a23:PySem.W.nsIn K mainGlobals "check_fit"=some (some (.ref f23)))(l23:K.lookup f23=some ⟨oc23,od23,.func (PySem.W.fnOf "check_fit" "check_fit" (zF wW) (zE wW) (zB wW) .none kV23 dc23 pm23 an23 cd23 ct23),sl23⟩)(c23:PySem.W.codeIn K cd23 "check_fit"=true)(k23:PySem.W.keepIn K (.ref f23)=true)
  (a24:PySem.W.nsIn K mainGlobals "scaled"=some (some (.ref f24)))(l24:K.lookup f24=some ⟨oc24,od24,.func (PySem.W.fnOf "scaled" "scaled" (zF zBe) (zE zBe) (zB zBe) .none kV24 dc24 pm24 an24 cd24 ct24),sl24⟩)(c24:PySem.W.codeIn K cd24 "scaled"=true)(k24:PySem.W.keepIn K (.ref f24)=true)
  (a25:PySem.W.nsIn K mainGlobals "finer"=some (some (.ref f25)))(l25:K.lookup f25=some ⟨oc25,od25,.func (PySem.W.fnOf "finer" "finer" (zF zCl) (zE zCl) (zB zCl) .none kV25 dc25 pm25 an25 cd25 ct25),sl25⟩)(c25:PySem.W.codeIn K cd25 "finer"=true)(k25:PySem.W.keepIn K (.ref f25)=true)
  (a26:PySem.W.nsIn K mainGlobals "first_dropped"=some (some (.ref f26)))(l26:K.lookup f26=some ⟨oc26,od26,.func (PySem.W.fnOf "first_dropped" "first_dropped" (zF vS) (zE vS) (zB vS) .none kV26 dc26 pm26 an26 cd26 ct26),sl26⟩)(c26:PySem.W.codeIn K cd26 "first_dropped"=true)(k26:PySem.W.keepIn K (.ref f26)=true)
  (a27:PySem.W.nsIn K mainGlobals "rest"=some (some (.ref f27)))(l27:K.lookup f27=some ⟨oc27,od27,.func (PySem.W.fnOf "rest" "rest" (zF zFf) (zE zFf) (zB zFf) .none kV27 dc27 pm27 an27 cd27 ct27),sl27⟩)(c27:PySem.W.codeIn K cd27 "rest"=true)(k27:PySem.W.keepIn K (.ref f27)=true)
  (a28:PySem.W.nsIn K mainGlobals "dropped"=some (some (.ref f28)))(l28:K.lookup f28=some ⟨oc28,od28,.func (PySem.W.fnOf "dropped" "dropped" (zF j4) (zE j4) (zB j4) .none kV28 dc28 pm28 an28 cd28 ct28),sl28⟩)(c28:PySem.W.codeIn K cd28 "dropped"=true)(k28:PySem.W.keepIn K (.ref f28)=true)
  (a29:PySem.W.nsIn K mainGlobals "value"=some (some (.ref f29)))(l29:K.lookup f29=some ⟨oc29,od29,.func (PySem.W.fnOf "value" "value" (zF zCn) (zE zCn) (zB zCn) .none kV29 dc29 pm29 an29 cd29 ct29),sl29⟩)(c29:PySem.W.codeIn K cd29 "value"=true)(k29:PySem.W.keepIn K (.ref f29)=true)
  (a30:PySem.W.nsIn K mainGlobals "divisor_of_all"=some (some (.ref f30)))(l30:K.lookup f30=some ⟨oc30,od30,.func (PySem.W.fnOf "divisor_of_all" "divisor_of_all" (zF vN) (zE vN) (zB vN) .none kV30 dc30 pm30 an30 cd30 ct30),sl30⟩)(c30:PySem.W.codeIn K cd30 "divisor_of_all"=true)(k30:PySem.W.keepIn K (.ref f30)=true)
  (a31:PySem.W.nsIn K mainGlobals "whole"=some (some (.ref f31)))(l31:K.lookup f31=some ⟨oc31,od31,.func (PySem.W.fnOf "whole" "whole" (zF zCq) (zE zCq) (zB zCq) .none kV31 dc31 pm31 an31 cd31 ct31),sl31⟩)(c31:PySem.W.codeIn K cd31 "whole"=true)(k31:PySem.W.keepIn K (.ref f31)=true)
  (a32:PySem.W.nsIn K mainGlobals "turn"=some (some (.ref f32)))(l32:K.lookup f32=some ⟨oc32,od32,.func (PySem.W.fnOf "turn" "turn" (zF zFs) (zE zFs) (zB zFs) .none kV32 dc32 pm32 an32 cd32 ct32),sl32⟩)(c32:PySem.W.codeIn K cd32 "turn"=true)(k32:PySem.W.keepIn K (.ref f32)=true)
  (a33:PySem.W.nsIn K mainGlobals "on"=some (some (.ref f33)))(l33:K.lookup f33=some ⟨oc33,od33,.func (PySem.W.fnOf "on" "on" (zF s_on) (zE s_on) (zB s_on) .none kV33 dc33 pm33 an33 cd33 ct33),sl33⟩)(c33:PySem.W.codeIn K cd33 "on"=true)(k33:PySem.W.keepIn K (.ref f33)=true)
  (a34:PySem.W.nsIn K mainGlobals "joint_wheel"=some (some (.ref f34)))(l34:K.lookup f34=some ⟨oc34,od34,.func (PySem.W.fnOf "joint_wheel" "joint_wheel" (zF wB) (zE wB) (zB wB) .none kV34 dc34 pm34 an34 cd34 ct34),sl34⟩)(c34:PySem.W.codeIn K cd34 "joint_wheel"=true)(k34:PySem.W.keepIn K (.ref f34)=true)
  (a35:PySem.W.nsIn K mainGlobals "raised"=some (some (.ref f35)))(l35:K.lookup f35=some ⟨oc35,od35,.func (PySem.W.fnOf "raised" "raised" (zF zBc) (zE zBc) (zB zBc) .none kV35 dc35 pm35 an35 cd35 ct35),sl35⟩)(c35:PySem.W.codeIn K cd35 "raised"=true)(k35:PySem.W.keepIn K (.ref f35)=true)
  (a36:PySem.W.nsIn K mainGlobals "added"=some (some (.ref f36)))(l36:K.lookup f36=some ⟨oc36,od36,.func (PySem.W.fnOf "added" "added" (zF zCm) (zE zCm) (zB zCm) .none kV36 dc36 pm36 an36 cd36 ct36),sl36⟩)(c36:PySem.W.codeIn K cd36 "added"=true)(k36:PySem.W.keepIn K (.ref f36)=true)
  (a37:PySem.W.nsIn K mainGlobals "_law_cell_at"=some (some (.ref f37)))(l37:K.lookup f37=some ⟨oc37,od37,.func (PySem.W.fnOf "_law_cell_at" "_law_cell_at" (zF v7) (zE v7) (zB v7) .none kV37 dc37 pm37 an37 cd37 ct37),sl37⟩)(c37:PySem.W.codeIn K cd37 "_law_cell_at"=true)(k37:PySem.W.keepIn K (.ref f37)=true)
  (a38:PySem.W.nsIn K mainGlobals "_law_number"=some (some (.ref f38)))(l38:K.lookup f38=some ⟨oc38,od38,.func (PySem.W.fnOf "_law_number" "_law_number" (zF wM) (zE wM) (zB wM) .none kV38 dc38 pm38 an38 cd38 ct38),sl38⟩)(c38:PySem.W.codeIn K cd38 "_law_number"=true)(k38:PySem.W.keepIn K (.ref f38)=true)
  (a39:PySem.W.nsIn K mainGlobals "_law_primes"=some (some (.ref f39)))(l39:K.lookup f39=some ⟨oc39,od39,.func (PySem.W.fnOf "_law_primes" "_law_primes" (zF wJ) (zE wJ) (zB wJ) .none kV39 dc39 pm39 an39 cd39 ct39),sl39⟩)(c39:PySem.W.codeIn K cd39 "_law_primes"=true)(k39:PySem.W.keepIn K (.ref f39)=true)
  (a40:PySem.W.nsIn K mainGlobals "_law_less_rows"=some (some (.ref f40)))(l40:K.lookup f40=some ⟨oc40,od40,.func (PySem.W.fnOf "_law_less_rows" "_law_less_rows" (zF vT) (zE vT) (zB vT) .none kV40 dc40 pm40 an40 cd40 ct40),sl40⟩)(c40:PySem.W.codeIn K cd40 "_law_less_rows"=true)(k40:PySem.W.keepIn K (.ref f40)=true)
  (a41:PySem.W.nsIn K mainGlobals "_law_of_two"=some (some (.ref f41)))(l41:K.lookup f41=some ⟨oc41,od41,.func (PySem.W.fnOf "_law_of_two" "_law_of_two" (zF wN) (zE wN) (zB wN) .none kV41 dc41 pm41 an41 cd41 ct41),sl41⟩)(c41:PySem.W.codeIn K cd41 "_law_of_two"=true)(k41:PySem.W.keepIn K (.ref f41)=true)
  (a42:PySem.W.nsIn K mainGlobals "_law_can"=some (some (.ref f42)))(l42:K.lookup f42=some ⟨oc42,od42,.func (PySem.W.fnOf "_law_can" "_law_can" (zF jW) (zE jW) (zB jW) .none kV42 dc42 pm42 an42 cd42 ct42),sl42⟩)(c42:PySem.W.codeIn K cd42 "_law_can"=true)(k42:PySem.W.keepIn K (.ref f42)=true)
  (a43:PySem.W.nsIn K mainGlobals "_law_setting_good"=some (some (.ref f43)))(l43:K.lookup f43=some ⟨oc43,od43,.func (PySem.W.fnOf "_law_setting_good" "_law_setting_good" (zF vH) (zE vH) (zB vH) .none kV43 dc43 pm43 an43 cd43 ct43),sl43⟩)(c43:PySem.W.codeIn K cd43 "_law_setting_good"=true)(k43:PySem.W.keepIn K (.ref f43)=true)
  (a44:PySem.W.nsIn K mainGlobals "law"=some (some (.ref f44)))(l44:K.lookup f44=some ⟨oc44,od44,.func (PySem.W.fnOf "law" "law" (zF s_law) (zE s_law) (zB s_law) .none kV44 dc44 pm44 an44 cd44 ct44),sl44⟩)(c44:PySem.W.codeIn K cd44 "law"=true)(k44:PySem.W.keepIn K (.ref f44)=true)
  (z0:PySem.W.nsIn K mainGlobals "len"=some none)
  (z1:PySem.W.nsIn K mainGlobals "isinstance"=some none)
  (z2:PySem.W.nsIn K mainGlobals "int"=some none)
  (z3:PySem.W.nsIn K mainGlobals "bool"=some none)
  (z4:PySem.W.nsIn K mainGlobals "abs"=some none)
  (z5:PySem.W.nsIn K mainGlobals "tuple"=some none)
  (z6:PySem.W.nsIn K mainGlobals "list"=some none)
  (z7:PySem.W.nsIn K mainGlobals "range"=some none)
  (z8:PySem.W.nsIn K mainGlobals "enumerate"=some none)
  (z9:PySem.W.nsIn K mainGlobals "min"=some none)
  (z10:PySem.W.nsIn K mainGlobals "max"=some none)
  (z11:PySem.W.nsIn K mainGlobals "zip"=some none)
  {t_MOST_HOLES:Tok}(ag_MOST_HOLES:PySem.W.nsIn K mainGlobals "MOST_HOLES"=some (some (.int 420 t_MOST_HOLES)))
  {t_LEAD_BITS:Tok}(ag_LEAD_BITS:PySem.W.nsIn K mainGlobals "LEAD_BITS"=some (some (.int 128 t_LEAD_BITS)))
  {cc tT:Addr}{lo1:Value}{lo2:Option Addr}{lo3:Array (Option Value)}{lvs:Array Value}(lcd:cd17=.ref cc)(lc:K.lookup cc=some ⟨lo1,lo2,.fields lvs,lo3⟩)(lv:lvs[11]?=some (.ref tT))(lk:K.lookup tT=none)
  : ∃ (fd:FuncData)(c tT:Addr),PySem.W.tabIn K "crossing_rows"=some (c,tT)∧K.lookup tT=none∧(∀ (s:Shared)(v:Value),BindsTo s fd ⟨[v],[]⟩ [("script",v)])∧∀ base:Heap,K.In base→base.Ns mainGlobals mg→LamB mg base c tT→FnOk l.prog w K mg base CX0 9 fa fd ["script"] (spLaw K tT):=by
 have e:=hfa.symm.trans (PySem.W.mg_of X G a44)
 cases e
 have F0:=vB (st:=j7) l0 c0 k0
 have F1:=vB (st:=zCo) l1 c1 k1
 have F2:=vB (st:=zBd) l2 c2 k2
 have F3:=vB (st:=wX) l3 c3 k3
 have F4:=vB (st:=wY) l4 c4 k4
 have F5:=vB (st:=jN) l5 c5 k5
 have F6:=vB (st:=zCt) l6 c6 k6
 have F7:=vB (st:=wC) l7 c7 k7
 have F8:=vB (st:=zFc) l8 c8 k8
 have F9:=vB (st:=zFp) l9 c9 k9
 have F10:=vB (st:=jE) l10 c10 k10
 have F11:=vB (st:=wL) l11 c11 k11
 have F12:=vB (st:=w4) l12 c12 k12
 have F13:=vB (st:=wK) l13 c13 k13
 have F14:=vB (st:=vU) l14 c14 k14
 have F15:=vB (st:=jZ) l15 c15 k15
 have F16:=vB (st:=v9) l16 c16 k16
 have F17:=vB (st:=vR) l17 c17 k17
 have F18:=vB (st:=j5) l18 c18 k18
 have F19:=vB (st:=wD) l19 c19 k19
 have F20:=vB (st:=vV) l20 c20 k20
 have F21:=vB (st:=zFd) l21 c21 k21
 have F22:=vB (st:=zFr) l22 c22 k22
 have F23:=vB (st:=wW) l23 c23 k23
 have F24:=vB (st:=zBe) l24 c24 k24
 have F25:=vB (st:=zCl) l25 c25 k25
 have F26:=vB (st:=vS) l26 c26 k26
 have F27:=vB (st:=zFf) l27 c27 k27
 have F28:=vB (st:=j4) l28 c28 k28
 have F29:=vB (st:=zCn) l29 c29 k29
 have F30:=vB (st:=vN) l30 c30 k30
 have F31:=vB (st:=zCq) l31 c31 k31
 have F32:=vB (st:=zFs) l32 c32 k32
 have F33:=vB (st:=s_on) l33 c33 k33
 have F34:=vB (st:=wB) l34 c34 k34
 have F35:=vB (st:=zBc) l35 c35 k35
 have F36:=vB (st:=zCm) l36 c36 k36
 have F37:=vB (st:=v7) l37 c37 k37
 have F38:=vB (st:=wM) l38 c38 k38
 have F39:=vB (st:=wJ) l39 c39 k39
 have F40:=vB (st:=vT) l40 c40 k40
 have F41:=vB (st:=wN) l41 c41 k41
 have F42:=vB (st:=jW) l42 c42 k42
 have F43:=vB (st:=vH) l43 c43 k43
 have F44:=vB (st:=s_law) l44 c44 k44
 have b0:=F0.binds (ps:=["one","other"]) fun _ _ _ _ _ _ us hl=>match us,hl with | [_,_],_=>rfl
 have b1:=F1.binds (ps:=["one","other"]) fun _ _ _ _ _ _ us hl=>match us,hl with | [_,_],_=>rfl
 have b2:=F2.binds (ps:=["one","other","bits"]) fun _ _ _ _ _ _ us hl=>match us,hl with | [_,_,_],_=>rfl
 have b3:=F3.binds (ps:=["pair","turn"]) fun _ _ _ _ _ _ us hl=>match us,hl with | [_,_],_=>rfl
 have b4:=F4.binds (ps:=["rests","bits"]) fun _ _ _ _ _ _ us hl=>match us,hl with | [_,_],_=>rfl
 have b5:=F5.binds (ps:=["rest","later_rest"]) fun _ _ _ _ _ _ us hl=>match us,hl with | [_,_],_=>rfl
 have b6:=F6.binds (ps:=["n"]) fun _ _ _ _ _ _ us hl=>match us,hl with | [_],_=>rfl
 have b7:=F7.binds (ps:=["n","p"]) fun _ _ _ _ _ _ us hl=>match us,hl with | [_,_],_=>rfl
 have b8:=F8.binds (ps:=["step","n"]) fun _ _ _ _ _ _ us hl=>match us,hl with | [_,_],_=>rfl
 have b9:=F9.binds (ps:=["n","rows"]) fun _ _ _ _ _ _ us hl=>match us,hl with | [_,_],_=>rfl
 have b10:=F10.binds (ps:=["load","p","hole","many"]) fun _ _ _ _ _ _ us hl=>match us,hl with | [_,_,_,_],_=>rfl
 have b11:=F11.binds (ps:=["n","p","hole"]) fun _ _ _ _ _ _ us hl=>match us,hl with | [_,_,_],_=>rfl
 have b12:=F12.binds (ps:=["n","many"]) fun _ _ _ _ _ _ us hl=>match us,hl with | [_,_],_=>rfl
 have b13:=F13.binds (ps:=["n"]) fun _ _ _ _ _ _ us hl=>match us,hl with | [_],_=>rfl
 have b14:=F14.binds (ps:=["primes","many"]) fun _ _ _ _ _ _ us hl=>match us,hl with | [_,_],_=>rfl
 have b15:=F15.binds (ps:=["load"]) fun _ _ _ _ _ _ us hl=>match us,hl with | [_],_=>rfl
 have b16:=F16.binds (ps:=["load","primes"]) fun _ _ _ _ _ _ us hl=>match us,hl with | [_,_],_=>rfl
 have b17:=F17.binds (ps:=["load","p","other","hole"]) fun _ _ _ _ _ _ us hl=>match us,hl with | [_,_,_,_],_=>rfl
 have b18:=F18.binds (ps:=["n","many"]) fun _ _ _ _ _ _ us hl=>match us,hl with | [_,_],_=>rfl
 have b19:=F19.binds (ps:=["n"]) fun _ _ _ _ _ _ us hl=>match us,hl with | [_],_=>rfl
 have b20:=F20.binds (ps:=["n","small","great"]) fun _ _ _ _ _ _ us hl=>match us,hl with | [_,_,_],_=>rfl
 have b21:=F21.binds (ps:=["n","hole","weight"]) fun _ _ _ _ _ _ us hl=>match us,hl with | [_,_,_],_=>rfl
 have b22:=F22.binds (ps:=["one","other"]) fun _ _ _ _ _ _ us hl=>match us,hl with | [_,_],_=>rfl
 have b23:=F23.binds (ps:=["one","other"]) fun _ _ _ _ _ _ us hl=>match us,hl with | [_,_],_=>rfl
 have b24:=F24.binds (ps:=["load","many"]) fun _ _ _ _ _ _ us hl=>match us,hl with | [_,_],_=>rfl
 have b25:=F25.binds (ps:=["load","many"]) fun _ _ _ _ _ _ us hl=>match us,hl with | [_,_],_=>rfl
 have b26:=F26.binds (ps:=["p","q"]) fun _ _ _ _ _ _ us hl=>match us,hl with | [_,_],_=>rfl
 have b27:=F27.binds (ps:=["load"]) fun _ _ _ _ _ _ us hl=>match us,hl with | [_],_=>rfl
 have b28:=F28.binds (ps:=["n","p","q"]) fun _ _ _ _ _ _ us hl=>match us,hl with | [_,_,_],_=>rfl
 have b29:=F29.binds (ps:=["load","bottom"]) fun _ _ _ _ _ _ us hl=>match us,hl with | [_,_],_=>rfl
 have b30:=F30.binds (ps:=["first","others"]) fun _ _ _ _ _ _ us hl=>match us,hl with | [_,_],_=>rfl
 have b31:=F31.binds (ps:=["many"]) fun _ _ _ _ _ _ us hl=>match us,hl with | [_],_=>rfl
 have b32:=F32.binds (ps:=["n","hole"]) fun _ _ _ _ _ _ us hl=>match us,hl with | [_,_],_=>rfl
 have b33:=F33.binds (ps:=["x","n"]) fun _ _ _ _ _ _ us hl=>match us,hl with | [_,_],_=>rfl
 have b34:=F34.binds (ps:=["x","y"]) fun _ _ _ _ _ _ us hl=>match us,hl with | [_,_],_=>rfl
 have b35:=F35.binds (ps:=["x","y","n"]) fun _ _ _ _ _ _ us hl=>match us,hl with | [_,_,_],_=>rfl
 have b36:=F36.binds (ps:=["x","y"]) fun _ _ _ _ _ _ us hl=>match us,hl with | [_,_],_=>rfl
 have b37:=F37.binds (ps:=["script","k"]) fun _ _ _ _ _ _ us hl=>match us,hl with | [_,_],_=>rfl
 have b38:=F38.binds (ps:=["found"]) fun _ _ _ _ _ _ us hl=>match us,hl with | [_],_=>rfl
 have b39:=F39.binds (ps:=["n"]) fun _ _ _ _ _ _ us hl=>match us,hl with | [_],_=>rfl
 have b40:=F40.binds (ps:=["load","rows"]) fun _ _ _ _ _ _ us hl=>match us,hl with | [_,_],_=>rfl
 have b41:=F41.binds (ps:=["cell"]) fun _ _ _ _ _ _ us hl=>match us,hl with | [_],_=>rfl
 have b42:=F42.binds (ps:=["some","many"]) fun _ _ _ _ _ _ us hl=>match us,hl with | [_,_],_=>rfl
 have b43:=F43.binds (ps:=["n","many","some"]) fun _ _ _ _ _ _ us hl=>match us,hl with | [_,_,_],_=>rfl
 have T:Txt K mg t_MOST_HOLES t_LEAD_BITS:=⟨PySem.W.mg_of X G ag_MOST_HOLES,PySem.W.mg_of X G ag_LEAD_BITS,⟨_,_,F0,b0,PySem.W.mg_of X G a0⟩,⟨_,_,F1,b1,PySem.W.mg_of X G a1⟩,⟨_,_,F2,b2,PySem.W.mg_of X G a2⟩,⟨_,_,F3,b3,PySem.W.mg_of X G a3⟩,⟨_,_,F4,b4,PySem.W.mg_of X G a4⟩,⟨_,_,F5,b5,PySem.W.mg_of X G a5⟩,⟨_,_,F6,b6,PySem.W.mg_of X G a6⟩,⟨_,_,F7,b7,PySem.W.mg_of X G a7⟩,⟨_,_,F8,b8,PySem.W.mg_of X G a8⟩,⟨_,_,F9,b9,PySem.W.mg_of X G a9⟩,⟨_,_,F10,b10,PySem.W.mg_of X G a10⟩,⟨_,_,F11,b11,PySem.W.mg_of X G a11⟩,⟨_,_,F12,b12,PySem.W.mg_of X G a12⟩,⟨_,_,F13,b13,PySem.W.mg_of X G a13⟩,⟨_,_,F14,b14,PySem.W.mg_of X G a14⟩,⟨_,_,F15,b15,PySem.W.mg_of X G a15⟩,⟨_,_,F16,b16,PySem.W.mg_of X G a16⟩,⟨_,_,F17,b17,PySem.W.mg_of X G a17⟩,⟨_,_,F18,b18,PySem.W.mg_of X G a18⟩,⟨_,_,F19,b19,PySem.W.mg_of X G a19⟩,⟨_,_,F20,b20,PySem.W.mg_of X G a20⟩,⟨_,_,F21,b21,PySem.W.mg_of X G a21⟩,⟨_,_,F22,b22,PySem.W.mg_of X G a22⟩,⟨_,_,F23,b23,PySem.W.mg_of X G a23⟩,⟨_,_,F24,b24,PySem.W.mg_of X G a24⟩,⟨_,_,F25,b25,PySem.W.mg_of X G a25⟩,⟨_,_,F26,b26,PySem.W.mg_of X G a26⟩,⟨_,_,F27,b27,PySem.W.mg_of X G a27⟩,⟨_,_,F28,b28,PySem.W.mg_of X G a28⟩,⟨_,_,F29,b29,PySem.W.mg_of X G a29⟩,⟨_,_,F30,b30,PySem.W.mg_of X G a30⟩,⟨_,_,F31,b31,PySem.W.mg_of X G a31⟩,⟨_,_,F32,b32,PySem.W.mg_of X G a32⟩,⟨_,_,F33,b33,PySem.W.mg_of X G a33⟩,⟨_,_,F34,b34,PySem.W.mg_of X G a34⟩,⟨_,_,F35,b35,PySem.W.mg_of X G a35⟩,⟨_,_,F36,b36,PySem.W.mg_of X G a36⟩,⟨_,_,F37,b37,PySem.W.mg_of X G a37⟩,⟨_,_,F38,b38,PySem.W.mg_of X G a38⟩,⟨_,_,F39,b39,PySem.W.mg_of X G a39⟩,⟨_,_,F40,b40,PySem.W.mg_of X G a40⟩,⟨_,_,F41,b41,PySem.W.mg_of X G a41⟩,⟨_,_,F42,b42,PySem.W.mg_of X G a42⟩,⟨_,_,F43,b43,PySem.W.mg_of X G a43⟩,PySem.W.mg_none_of X G z0,PySem.W.mg_none_of X G z1,PySem.W.mg_none_of X G z2,PySem.W.mg_none_of X G z3,PySem.W.mg_none_of X G z4,PySem.W.mg_none_of X G z5,PySem.W.mg_none_of X G z6,PySem.W.mg_none_of X G z7,PySem.W.mg_none_of X G z8,PySem.W.mg_none_of X G z9,PySem.W.mg_none_of X G z10,PySem.W.mg_none_of X G z11⟩
 have tb:PySem.W.tabIn K "crossing_rows"=some (cc,tT):=tabIn_of a17 l17 lcd lc lv
 exact⟨_,cc,tT,tb,lk,fun s v=>.of_eq rfl,fun base kb nb lb=>ok_law T ⟨kb,nb,tb,lb⟩ F44⟩
theorem walk {l:PySem.W.OpenLaw}{q:Program}{loose:List Str}{XP:(Str→Option Value)→Heap→Prop}{YP:World→Heap→Prop}{d dy:DefRec}{K:Params→PySem.W.Frag}(hn:l.most=some 63)(hdf:d.params.defaults=[])
  (hY:∀ (w:World)(h:Heap),YP w h→(K w.params).In h)(hrec:(PyProof.Rows.recsOf q).find? (fun e=>e.name == ("crossing_rows":Str))=some dy)
  (F:∀ (w:World)(mg:Str→Option Value)(fa:Addr)(h:Heap),(K w.params).In h→h.Ns mainGlobals mg→mg d.name=some (.ref fa) →
   ∃ (fd:FuncData)(c tT:Addr),PySem.W.tabIn (K w.params) "crossing_rows"=some (c,tT)∧(K w.params).lookup tT=none∧(∀ (s:Shared)(u:Value),BindsTo s fd ⟨[u],[]⟩ [("script",u)])∧∀ base:Heap,(K w.params).In base→base.Ns mainGlobals mg→LamB mg base c tT→FnOk l.prog w (K w.params) mg base CX0 9 fa fd ["script"] (spLaw (K w.params) tT)) :
  PySem.W.WalkO q loose XP YP l.row.toRowW d [] (fun f vs=>PySem.call f vs) :=
 L2.walk_ofT (n:=63) (k:=9) (x:="script") (y:="crossing_rows") (sp:=fun w tT=>spLaw (K w.params) tT) hn (by decide) hdf ⟨rfl,by decide,by decide⟩ hY hrec F (fun _ _ _ a ns hl hS hT=>⟨a,ns,rfl,hS,hl,.inl hT,fun _=>rfl⟩)
end K95
namespace PwT
open PySem
noncomputable def nth (l:List Str):Nat→Str:=@List.rec Str (fun _=>Nat→Str) (fun _=>⟨#[]⟩) (fun a _ ih n=>@Nat.rec (fun _=>Str) a (fun m _=>ih m) n) l
noncomputable def A:List Str:=[Str.ofString "_law_of_two",Str.ofString "cell",Str.ofString "n",Str.ofString "some",Str.ofString "_law_primes",Str.ofString "p",Str.ofString "_law_can",Str.ofString "many",Str.ofString "k",Str.ofString "range",Str.ofString "left",Str.ofString "len",Str.ofString "_law_setting_good",Str.ofString "found",Str.ofString "setting",Str.ofString "good",Str.ofString "isinstance",Str.ofString "list",Str.ofString "total",Str.ofString "whole",Str.ofString "count",Str.ofString "hole",Str.ofString "_law_number",Str.ofString "added",Str.ofString "turn",Str.ofString "law",Str.ofString "script",Str.ofString "_law_cell_at",Str.ofString "load",Str.ofString "min",Str.ofString "j",Str.ofString "at",Str.ofString "bent",Str.ofString "max",Str.ofString "much",Str.ofString "stacked",Str.ofString "value",Str.ofString "_law_less_rows",Str.ofString "row",Str.ofString ".0",Str.ofString "fast",Str.ofString "int",Str.ofString "bool",Str.ofString "made",Str.ofString "append",Str.ofString "rows",Str.ofString "seen",Str.ofString "tuple",Str.ofString "joint_wheel",Str.ofString "x",Str.ofString "y",Str.ofString "joint",Str.ofString "MOST_HOLES",Str.ofString "TooWide",Str.ofString "the joint wheel of both values would have more than ",Str.ofString " holes",Str.ofString "raised",Str.ofString "scaled",Str.ofString "on",Str.ofString "plus",Str.ofString "__name__",Str.ofString "law_evenhub_k95_whole_settings_as_sums",Str.ofString "divisor_of_all",Str.ofString "first",Str.ofString "others",Str.ofString "outcome",Str.ofString "abs",Str.ofString "number",Str.ofString "divisor",Str.ofString "hung",Str.ofString "NoWheel",Str.ofString "the number of holes of the value's own wheel doesn't divide that of the other",Str.ofString "finer",Str.ofString "rest",Str.ofString "q",Str.ofString "parts",Str.ofString "dropped",Str.ofString "lay_ring",Str.ofString "lead",Str.ofString "back",Str.ofString "first_dropped",Str.ofString "evenhub.tellings",Str.ofString "bottom",Str.ofString "NoNumber",Str.ofString "a load is not divided by 0",Str.ofString "step",Str.ofString "weight",Str.ofString "enumerate",Str.ofString "weights",Str.ofString "by",Str.ofString "the finer wheel would have more than ",Str.ofString "evenhub.rests",Str.ofString "one",Str.ofString "other",Str.ofString "check_fit",Str.ofString "more",Str.ofString "zip",Str.ofString "NoFit",Str.ofString "the loads have unlike numbers of holes",Str.ofString "counts",Str.ofString "prime_sum",Str.ofString "holes",Str.ofString "few_primes",Str.ofString "ring_starts",Str.ofString "extend",Str.ofString "laid",Str.ofString "primes",Str.ofString "crossing_last",Str.ofString "ring_holes",Str.ofString "small",Str.ofString "great",Str.ofString "evenhub.loads",Str.ofString "likely_rows",Str.ofString "crossing_rows",Str.ofString "across",Str.ofString "low",Str.ofString "key",Str.ofString "place",Str.ofString "evenhub.settings",Str.ofString "evenhub.stacks",Str.ofString "one_prime_sum",Str.ofString "more than two primes divide the number of holes",Str.ofString "evenhub.rings",Str.ofString "prime",Str.ofString "power",Str.ofString "NoRing",Str.ofString "a ring is of a prime that divides the number of holes",Str.ofString "evenhub.primes",Str.ofString "prime_power",Str.ofString "told",Str.ofString "euclid",Str.ofString "NoTurn",Str.ofString "the divisor of the step and the number isn't 1",Str.ofString "bits",Str.ofString "rests",Str.ofString "bit_length",Str.ofString "next_turn",Str.ofString "turned_on",Str.ofString "pair",Str.ofString "length",Str.ofString "LEAD_BITS",Str.ofString "behind",Str.ofString "sure_turn",Str.ofString "later_rest",Str.ofString "new_rest",Str.ofString "further",Str.ofString "doubt",Str.ofString "evenhub.wholes",Str.ofString "HubError",Str.ofString "evenhub.errors",Str.ofString "ValueError",Str.ofString "/claim/cut.py"]
noncomputable def B:List Str:=[⟨#[95,108,97,119,95,111,102,95,116,119,111]⟩,⟨#[99,101,108,108]⟩,⟨#[110]⟩,⟨#[115,111,109,101]⟩,⟨#[95,108,97,119,95,112,114,105,109,101,115]⟩,⟨#[112]⟩,⟨#[95,108,97,119,95,99,97,110]⟩,⟨#[109,97,110,121]⟩,⟨#[107]⟩,⟨#[114,97,110,103,101]⟩,⟨#[108,101,102,116]⟩,⟨#[108,101,110]⟩,⟨#[95,108,97,119,95,115,101,116,116,105,110,103,95,103,111,111,100]⟩,⟨#[102,111,117,110,100]⟩,⟨#[115,101,116,116,105,110,103]⟩,⟨#[103,111,111,100]⟩,⟨#[105,115,105,110,115,116,97,110,99,101]⟩,⟨#[108,105,115,116]⟩,⟨#[116,111,116,97,108]⟩,⟨#[119,104,111,108,101]⟩,⟨#[99,111,117,110,116]⟩,⟨#[104,111,108,101]⟩,⟨#[95,108,97,119,95,110,117,109,98,101,114]⟩,⟨#[97,100,100,101,100]⟩,⟨#[116,117,114,110]⟩,⟨#[108,97,119]⟩,⟨#[115,99,114,105,112,116]⟩,⟨#[95,108,97,119,95,99,101,108,108,95,97,116]⟩,⟨#[108,111,97,100]⟩,⟨#[109,105,110]⟩,⟨#[106]⟩,⟨#[97,116]⟩,⟨#[98,101,110,116]⟩,⟨#[109,97,120]⟩,⟨#[109,117,99,104]⟩,⟨#[115,116,97,99,107,101,100]⟩,⟨#[118,97,108,117,101]⟩,⟨#[95,108,97,119,95,108,101,115,115,95,114,111,119,115]⟩,⟨#[114,111,119]⟩,⟨#[46,48]⟩,⟨#[102,97,115,116]⟩,⟨#[105,110,116]⟩,⟨#[98,111,111,108]⟩,⟨#[109,97,100,101]⟩,⟨#[97,112,112,101,110,100]⟩,⟨#[114,111,119,115]⟩,⟨#[115,101,101,110]⟩,⟨#[116,117,112,108,101]⟩,⟨#[106,111,105,110,116,95,119,104,101,101,108]⟩,⟨#[120]⟩,⟨#[121]⟩,⟨#[106,111,105,110,116]⟩,⟨#[77,79,83,84,95,72,79,76,69,83]⟩,⟨#[84,111,111,87,105,100,101]⟩,⟨#[116,104,101,32,106,111,105,110,116,32,119,104,101,101,108,32,111,102,32,98,111,116,104,32,118,97,108,117,101,115,32,119,111,117,108,100,32,104,97,118,101,32,109,111,114,101,32,116,104,97,110,32]⟩,⟨#[32,104,111,108,101,115]⟩,⟨#[114,97,105,115,101,100]⟩,⟨#[115,99,97,108,101,100]⟩,⟨#[111,110]⟩,⟨#[112,108,117,115]⟩,⟨#[95,95,110,97,109,101,95,95]⟩,⟨#[108,97,119,95,101,118,101,110,104,117,98,95,107,57,53,95,119,104,111,108,101,95,115,101,116,116,105,110,103,115,95,97,115,95,115,117,109,115]⟩,⟨#[100,105,118,105,115,111,114,95,111,102,95,97,108,108]⟩,⟨#[102,105,114,115,116]⟩,⟨#[111,116,104,101,114,115]⟩,⟨#[111,117,116,99,111,109,101]⟩,⟨#[97,98,115]⟩,⟨#[110,117,109,98,101,114]⟩,⟨#[100,105,118,105,115,111,114]⟩,⟨#[104,117,110,103]⟩,⟨#[78,111,87,104,101,101,108]⟩,⟨#[116,104,101,32,110,117,109,98,101,114,32,111,102,32,104,111,108,101,115,32,111,102,32,116,104,101,32,118,97,108,117,101,39,115,32,111,119,110,32,119,104,101,101,108,32,100,111,101,115,110,39,116,32,100,105,118,105,100,101,32,116,104,97,116,32,111,102,32,116,104,101,32,111,116,104,101,114]⟩,⟨#[102,105,110,101,114]⟩,⟨#[114,101,115,116]⟩,⟨#[113]⟩,⟨#[112,97,114,116,115]⟩,⟨#[100,114,111,112,112,101,100]⟩,⟨#[108,97,121,95,114,105,110,103]⟩,⟨#[108,101,97,100]⟩,⟨#[98,97,99,107]⟩,⟨#[102,105,114,115,116,95,100,114,111,112,112,101,100]⟩,⟨#[101,118,101,110,104,117,98,46,116,101,108,108,105,110,103,115]⟩,⟨#[98,111,116,116,111,109]⟩,⟨#[78,111,78,117,109,98,101,114]⟩,⟨#[97,32,108,111,97,100,32,105,115,32,110,111,116,32,100,105,118,105,100,101,100,32,98,121,32,48]⟩,⟨#[115,116,101,112]⟩,⟨#[119,101,105,103,104,116]⟩,⟨#[101,110,117,109,101,114,97,116,101]⟩,⟨#[119,101,105,103,104,116,115]⟩,⟨#[98,121]⟩,⟨#[116,104,101,32,102,105,110,101,114,32,119,104,101,101,108,32,119,111,117,108,100,32,104,97,118,101,32,109,111,114,101,32,116,104,97,110,32]⟩,⟨#[101,118,101,110,104,117,98,46,114,101,115,116,115]⟩,⟨#[111,110,101]⟩,⟨#[111,116,104,101,114]⟩,⟨#[99,104,101,99,107,95,102,105,116]⟩,⟨#[109,111,114,101]⟩,⟨#[122,105,112]⟩,⟨#[78,111,70,105,116]⟩,⟨#[116,104,101,32,108,111,97,100,115,32,104,97,118,101,32,117,110,108,105,107,101,32,110,117,109,98,101,114,115,32,111,102,32,104,111,108,101,115]⟩,⟨#[99,111,117,110,116,115]⟩,⟨#[112,114,105,109,101,95,115,117,109]⟩,⟨#[104,111,108,101,115]⟩,⟨#[102,101,119,95,112,114,105,109,101,115]⟩,⟨#[114,105,110,103,95,115,116,97,114,116,115]⟩,⟨#[101,120,116,101,110,100]⟩,⟨#[108,97,105,100]⟩,⟨#[112,114,105,109,101,115]⟩,⟨#[99,114,111,115,115,105,110,103,95,108,97,115,116]⟩,⟨#[114,105,110,103,95,104,111,108,101,115]⟩,⟨#[115,109,97,108,108]⟩,⟨#[103,114,101,97,116]⟩,⟨#[101,118,101,110,104,117,98,46,108,111,97,100,115]⟩,⟨#[108,105,107,101,108,121,95,114,111,119,115]⟩,⟨#[99,114,111,115,115,105,110,103,95,114,111,119,115]⟩,⟨#[97,99,114,111,115,115]⟩,⟨#[108,111,119]⟩,⟨#[107,101,121]⟩,⟨#[112,108,97,99,101]⟩,⟨#[101,118,101,110,104,117,98,46,115,101,116,116,105,110,103,115]⟩,⟨#[101,118,101,110,104,117,98,46,115,116,97,99,107,115]⟩,⟨#[111,110,101,95,112,114,105,109,101,95,115,117,109]⟩,⟨#[109,111,114,101,32,116,104,97,110,32,116,119,111,32,112,114,105,109,101,115,32,100,105,118,105,100,101,32,116,104,101,32,110,117,109,98,101,114,32,111,102,32,104,111,108,101,115]⟩,⟨#[101,118,101,110,104,117,98,46,114,105,110,103,115]⟩,⟨#[112,114,105,109,101]⟩,⟨#[112,111,119,101,114]⟩,⟨#[78,111,82,105,110,103]⟩,⟨#[97,32,114,105,110,103,32,105,115,32,111,102,32,97,32,112,114,105,109,101,32,116,104,97,116,32,100,105,118,105,100,101,115,32,116,104,101,32,110,117,109,98,101,114,32,111,102,32,104,111,108,101,115]⟩,⟨#[101,118,101,110,104,117,98,46,112,114,105,109,101,115]⟩,⟨#[112,114,105,109,101,95,112,111,119,101,114]⟩,⟨#[116,111,108,100]⟩,⟨#[101,117,99,108,105,100]⟩,⟨#[78,111,84,117,114,110]⟩,⟨#[116,104,101,32,100,105,118,105,115,111,114,32,111,102,32,116,104,101,32,115,116,101,112,32,97,110,100,32,116,104,101,32,110,117,109,98,101,114,32,105,115,110,39,116,32,49]⟩,⟨#[98,105,116,115]⟩,⟨#[114,101,115,116,115]⟩,⟨#[98,105,116,95,108,101,110,103,116,104]⟩,⟨#[110,101,120,116,95,116,117,114,110]⟩,⟨#[116,117,114,110,101,100,95,111,110]⟩,⟨#[112,97,105,114]⟩,⟨#[108,101,110,103,116,104]⟩,⟨#[76,69,65,68,95,66,73,84,83]⟩,⟨#[98,101,104,105,110,100]⟩,⟨#[115,117,114,101,95,116,117,114,110]⟩,⟨#[108,97,116,101,114,95,114,101,115,116]⟩,⟨#[110,101,119,95,114,101,115,116]⟩,⟨#[102,117,114,116,104,101,114]⟩,⟨#[100,111,117,98,116]⟩,⟨#[101,118,101,110,104,117,98,46,119,104,111,108,101,115]⟩,⟨#[72,117,98,69,114,114,111,114]⟩,⟨#[101,118,101,110,104,117,98,46,101,114,114,111,114,115]⟩,⟨#[86,97,108,117,101,69,114,114,111,114]⟩,⟨#[47,99,108,97,105,109,47,99,117,116,46,112,121]⟩]
theorem a0:Str.ofString "_law_of_two"=nth A 0:=rfl
theorem b0:nth B 0=⟨#[95,108,97,119,95,111,102,95,116,119,111]⟩:=rfl
theorem a1:Str.ofString "cell"=nth A 1:=rfl
theorem b1:nth B 1=⟨#[99,101,108,108]⟩:=rfl
theorem a2:Str.ofString "n"=nth A 2:=rfl
theorem b2:nth B 2=⟨#[110]⟩:=rfl
theorem a3:Str.ofString "some"=nth A 3:=rfl
theorem b3:nth B 3=⟨#[115,111,109,101]⟩:=rfl
theorem a4:Str.ofString "_law_primes"=nth A 4:=rfl
theorem b4:nth B 4=⟨#[95,108,97,119,95,112,114,105,109,101,115]⟩:=rfl
theorem a5:Str.ofString "p"=nth A 5:=rfl
theorem b5:nth B 5=⟨#[112]⟩:=rfl
theorem a6:Str.ofString "_law_can"=nth A 6:=rfl
theorem b6:nth B 6=⟨#[95,108,97,119,95,99,97,110]⟩:=rfl
theorem a7:Str.ofString "many"=nth A 7:=rfl
theorem b7:nth B 7=⟨#[109,97,110,121]⟩:=rfl
theorem a8:Str.ofString "k"=nth A 8:=rfl
theorem b8:nth B 8=⟨#[107]⟩:=rfl
theorem a9:Str.ofString "range"=nth A 9:=rfl
theorem b9:nth B 9=⟨#[114,97,110,103,101]⟩:=rfl
theorem a10:Str.ofString "left"=nth A 10:=rfl
theorem b10:nth B 10=⟨#[108,101,102,116]⟩:=rfl
theorem a11:Str.ofString "len"=nth A 11:=rfl
theorem b11:nth B 11=⟨#[108,101,110]⟩:=rfl
theorem a12:Str.ofString "_law_setting_good"=nth A 12:=rfl
theorem b12:nth B 12=⟨#[95,108,97,119,95,115,101,116,116,105,110,103,95,103,111,111,100]⟩:=rfl
theorem a13:Str.ofString "found"=nth A 13:=rfl
theorem b13:nth B 13=⟨#[102,111,117,110,100]⟩:=rfl
theorem a14:Str.ofString "setting"=nth A 14:=rfl
theorem b14:nth B 14=⟨#[115,101,116,116,105,110,103]⟩:=rfl
theorem a15:Str.ofString "good"=nth A 15:=rfl
theorem b15:nth B 15=⟨#[103,111,111,100]⟩:=rfl
theorem a16:Str.ofString "isinstance"=nth A 16:=rfl
theorem b16:nth B 16=⟨#[105,115,105,110,115,116,97,110,99,101]⟩:=rfl
theorem a17:Str.ofString "list"=nth A 17:=rfl
theorem b17:nth B 17=⟨#[108,105,115,116]⟩:=rfl
theorem a18:Str.ofString "total"=nth A 18:=rfl
theorem b18:nth B 18=⟨#[116,111,116,97,108]⟩:=rfl
theorem a19:Str.ofString "whole"=nth A 19:=rfl
theorem b19:nth B 19=⟨#[119,104,111,108,101]⟩:=rfl
theorem a20:Str.ofString "count"=nth A 20:=rfl
theorem b20:nth B 20=⟨#[99,111,117,110,116]⟩:=rfl
theorem a21:Str.ofString "hole"=nth A 21:=rfl
theorem b21:nth B 21=⟨#[104,111,108,101]⟩:=rfl
theorem a22:Str.ofString "_law_number"=nth A 22:=rfl
theorem b22:nth B 22=⟨#[95,108,97,119,95,110,117,109,98,101,114]⟩:=rfl
theorem a23:Str.ofString "added"=nth A 23:=rfl
theorem b23:nth B 23=⟨#[97,100,100,101,100]⟩:=rfl
theorem a24:Str.ofString "turn"=nth A 24:=rfl
theorem b24:nth B 24=⟨#[116,117,114,110]⟩:=rfl
theorem a25:Str.ofString "law"=nth A 25:=rfl
theorem b25:nth B 25=⟨#[108,97,119]⟩:=rfl
theorem a26:Str.ofString "script"=nth A 26:=rfl
theorem b26:nth B 26=⟨#[115,99,114,105,112,116]⟩:=rfl
theorem a27:Str.ofString "_law_cell_at"=nth A 27:=rfl
theorem b27:nth B 27=⟨#[95,108,97,119,95,99,101,108,108,95,97,116]⟩:=rfl
theorem a28:Str.ofString "load"=nth A 28:=rfl
theorem b28:nth B 28=⟨#[108,111,97,100]⟩:=rfl
theorem a29:Str.ofString "min"=nth A 29:=rfl
theorem b29:nth B 29=⟨#[109,105,110]⟩:=rfl
theorem a30:Str.ofString "j"=nth A 30:=rfl
theorem b30:nth B 30=⟨#[106]⟩:=rfl
theorem a31:Str.ofString "at"=nth A 31:=rfl
theorem b31:nth B 31=⟨#[97,116]⟩:=rfl
theorem a32:Str.ofString "bent"=nth A 32:=rfl
theorem b32:nth B 32=⟨#[98,101,110,116]⟩:=rfl
theorem a33:Str.ofString "max"=nth A 33:=rfl
theorem b33:nth B 33=⟨#[109,97,120]⟩:=rfl
theorem a34:Str.ofString "much"=nth A 34:=rfl
theorem b34:nth B 34=⟨#[109,117,99,104]⟩:=rfl
theorem a35:Str.ofString "stacked"=nth A 35:=rfl
theorem b35:nth B 35=⟨#[115,116,97,99,107,101,100]⟩:=rfl
theorem a36:Str.ofString "value"=nth A 36:=rfl
theorem b36:nth B 36=⟨#[118,97,108,117,101]⟩:=rfl
theorem a37:Str.ofString "_law_less_rows"=nth A 37:=rfl
theorem b37:nth B 37=⟨#[95,108,97,119,95,108,101,115,115,95,114,111,119,115]⟩:=rfl
theorem a38:Str.ofString "row"=nth A 38:=rfl
theorem b38:nth B 38=⟨#[114,111,119]⟩:=rfl
theorem a39:Str.ofString ".0"=nth A 39:=rfl
theorem b39:nth B 39=⟨#[46,48]⟩:=rfl
theorem a40:Str.ofString "fast"=nth A 40:=rfl
theorem b40:nth B 40=⟨#[102,97,115,116]⟩:=rfl
theorem a41:Str.ofString "int"=nth A 41:=rfl
theorem b41:nth B 41=⟨#[105,110,116]⟩:=rfl
theorem a42:Str.ofString "bool"=nth A 42:=rfl
theorem b42:nth B 42=⟨#[98,111,111,108]⟩:=rfl
theorem a43:Str.ofString "made"=nth A 43:=rfl
theorem b43:nth B 43=⟨#[109,97,100,101]⟩:=rfl
theorem a44:Str.ofString "append"=nth A 44:=rfl
theorem b44:nth B 44=⟨#[97,112,112,101,110,100]⟩:=rfl
theorem a45:Str.ofString "rows"=nth A 45:=rfl
theorem b45:nth B 45=⟨#[114,111,119,115]⟩:=rfl
theorem a46:Str.ofString "seen"=nth A 46:=rfl
theorem b46:nth B 46=⟨#[115,101,101,110]⟩:=rfl
theorem a47:Str.ofString "tuple"=nth A 47:=rfl
theorem b47:nth B 47=⟨#[116,117,112,108,101]⟩:=rfl
theorem a48:Str.ofString "joint_wheel"=nth A 48:=rfl
theorem b48:nth B 48=⟨#[106,111,105,110,116,95,119,104,101,101,108]⟩:=rfl
theorem a49:Str.ofString "x"=nth A 49:=rfl
theorem b49:nth B 49=⟨#[120]⟩:=rfl
theorem a50:Str.ofString "y"=nth A 50:=rfl
theorem b50:nth B 50=⟨#[121]⟩:=rfl
theorem a51:Str.ofString "joint"=nth A 51:=rfl
theorem b51:nth B 51=⟨#[106,111,105,110,116]⟩:=rfl
theorem a52:Str.ofString "MOST_HOLES"=nth A 52:=rfl
theorem b52:nth B 52=⟨#[77,79,83,84,95,72,79,76,69,83]⟩:=rfl
theorem a53:Str.ofString "TooWide"=nth A 53:=rfl
theorem b53:nth B 53=⟨#[84,111,111,87,105,100,101]⟩:=rfl
theorem a54:Str.ofString "the joint wheel of both values would have more than "=nth A 54:=rfl
theorem b54:nth B 54=⟨#[116,104,101,32,106,111,105,110,116,32,119,104,101,101,108,32,111,102,32,98,111,116,104,32,118,97,108,117,101,115,32,119,111,117,108,100,32,104,97,118,101,32,109,111,114,101,32,116,104,97,110,32]⟩:=rfl
theorem a55:Str.ofString " holes"=nth A 55:=rfl
theorem b55:nth B 55=⟨#[32,104,111,108,101,115]⟩:=rfl
theorem a56:Str.ofString "raised"=nth A 56:=rfl
theorem b56:nth B 56=⟨#[114,97,105,115,101,100]⟩:=rfl
theorem a57:Str.ofString "scaled"=nth A 57:=rfl
theorem b57:nth B 57=⟨#[115,99,97,108,101,100]⟩:=rfl
theorem a58:Str.ofString "on"=nth A 58:=rfl
theorem b58:nth B 58=⟨#[111,110]⟩:=rfl
theorem a59:Str.ofString "plus"=nth A 59:=rfl
theorem b59:nth B 59=⟨#[112,108,117,115]⟩:=rfl
theorem a60:Str.ofString "__name__"=nth A 60:=rfl
theorem b60:nth B 60=⟨#[95,95,110,97,109,101,95,95]⟩:=rfl
theorem a61:Str.ofString "law_evenhub_k95_whole_settings_as_sums"=nth A 61:=rfl
theorem b61:nth B 61=⟨#[108,97,119,95,101,118,101,110,104,117,98,95,107,57,53,95,119,104,111,108,101,95,115,101,116,116,105,110,103,115,95,97,115,95,115,117,109,115]⟩:=rfl
theorem a62:Str.ofString "divisor_of_all"=nth A 62:=rfl
theorem b62:nth B 62=⟨#[100,105,118,105,115,111,114,95,111,102,95,97,108,108]⟩:=rfl
theorem a63:Str.ofString "first"=nth A 63:=rfl
theorem b63:nth B 63=⟨#[102,105,114,115,116]⟩:=rfl
theorem a64:Str.ofString "others"=nth A 64:=rfl
theorem b64:nth B 64=⟨#[111,116,104,101,114,115]⟩:=rfl
theorem a65:Str.ofString "outcome"=nth A 65:=rfl
theorem b65:nth B 65=⟨#[111,117,116,99,111,109,101]⟩:=rfl
theorem a66:Str.ofString "abs"=nth A 66:=rfl
theorem b66:nth B 66=⟨#[97,98,115]⟩:=rfl
theorem a67:Str.ofString "number"=nth A 67:=rfl
theorem b67:nth B 67=⟨#[110,117,109,98,101,114]⟩:=rfl
theorem a68:Str.ofString "divisor"=nth A 68:=rfl
theorem b68:nth B 68=⟨#[100,105,118,105,115,111,114]⟩:=rfl
theorem a69:Str.ofString "hung"=nth A 69:=rfl
theorem b69:nth B 69=⟨#[104,117,110,103]⟩:=rfl
theorem a70:Str.ofString "NoWheel"=nth A 70:=rfl
theorem b70:nth B 70=⟨#[78,111,87,104,101,101,108]⟩:=rfl
theorem a71:Str.ofString "the number of holes of the value's own wheel doesn't divide that of the other"=nth A 71:=rfl
theorem b71:nth B 71=⟨#[116,104,101,32,110,117,109,98,101,114,32,111,102,32,104,111,108,101,115,32,111,102,32,116,104,101,32,118,97,108,117,101,39,115,32,111,119,110,32,119,104,101,101,108,32,100,111,101,115,110,39,116,32,100,105,118,105,100,101,32,116,104,97,116,32,111,102,32,116,104,101,32,111,116,104,101,114]⟩:=rfl
theorem a72:Str.ofString "finer"=nth A 72:=rfl
theorem b72:nth B 72=⟨#[102,105,110,101,114]⟩:=rfl
theorem a73:Str.ofString "rest"=nth A 73:=rfl
theorem b73:nth B 73=⟨#[114,101,115,116]⟩:=rfl
theorem a74:Str.ofString "q"=nth A 74:=rfl
theorem b74:nth B 74=⟨#[113]⟩:=rfl
theorem a75:Str.ofString "parts"=nth A 75:=rfl
theorem b75:nth B 75=⟨#[112,97,114,116,115]⟩:=rfl
theorem a76:Str.ofString "dropped"=nth A 76:=rfl
theorem b76:nth B 76=⟨#[100,114,111,112,112,101,100]⟩:=rfl
theorem a77:Str.ofString "lay_ring"=nth A 77:=rfl
theorem b77:nth B 77=⟨#[108,97,121,95,114,105,110,103]⟩:=rfl
theorem a78:Str.ofString "lead"=nth A 78:=rfl
theorem b78:nth B 78=⟨#[108,101,97,100]⟩:=rfl
theorem a79:Str.ofString "back"=nth A 79:=rfl
theorem b79:nth B 79=⟨#[98,97,99,107]⟩:=rfl
theorem a80:Str.ofString "first_dropped"=nth A 80:=rfl
theorem b80:nth B 80=⟨#[102,105,114,115,116,95,100,114,111,112,112,101,100]⟩:=rfl
theorem a81:Str.ofString "evenhub.tellings"=nth A 81:=rfl
theorem b81:nth B 81=⟨#[101,118,101,110,104,117,98,46,116,101,108,108,105,110,103,115]⟩:=rfl
theorem a82:Str.ofString "bottom"=nth A 82:=rfl
theorem b82:nth B 82=⟨#[98,111,116,116,111,109]⟩:=rfl
theorem a83:Str.ofString "NoNumber"=nth A 83:=rfl
theorem b83:nth B 83=⟨#[78,111,78,117,109,98,101,114]⟩:=rfl
theorem a84:Str.ofString "a load is not divided by 0"=nth A 84:=rfl
theorem b84:nth B 84=⟨#[97,32,108,111,97,100,32,105,115,32,110,111,116,32,100,105,118,105,100,101,100,32,98,121,32,48]⟩:=rfl
theorem a85:Str.ofString "step"=nth A 85:=rfl
theorem b85:nth B 85=⟨#[115,116,101,112]⟩:=rfl
theorem a86:Str.ofString "weight"=nth A 86:=rfl
theorem b86:nth B 86=⟨#[119,101,105,103,104,116]⟩:=rfl
theorem a87:Str.ofString "enumerate"=nth A 87:=rfl
theorem b87:nth B 87=⟨#[101,110,117,109,101,114,97,116,101]⟩:=rfl
theorem a88:Str.ofString "weights"=nth A 88:=rfl
theorem b88:nth B 88=⟨#[119,101,105,103,104,116,115]⟩:=rfl
theorem a89:Str.ofString "by"=nth A 89:=rfl
theorem b89:nth B 89=⟨#[98,121]⟩:=rfl
theorem a90:Str.ofString "the finer wheel would have more than "=nth A 90:=rfl
theorem b90:nth B 90=⟨#[116,104,101,32,102,105,110,101,114,32,119,104,101,101,108,32,119,111,117,108,100,32,104,97,118,101,32,109,111,114,101,32,116,104,97,110,32]⟩:=rfl
theorem a91:Str.ofString "evenhub.rests"=nth A 91:=rfl
theorem b91:nth B 91=⟨#[101,118,101,110,104,117,98,46,114,101,115,116,115]⟩:=rfl
theorem a92:Str.ofString "one"=nth A 92:=rfl
theorem b92:nth B 92=⟨#[111,110,101]⟩:=rfl
theorem a93:Str.ofString "other"=nth A 93:=rfl
theorem b93:nth B 93=⟨#[111,116,104,101,114]⟩:=rfl
theorem a94:Str.ofString "check_fit"=nth A 94:=rfl
theorem b94:nth B 94=⟨#[99,104,101,99,107,95,102,105,116]⟩:=rfl
theorem a95:Str.ofString "more"=nth A 95:=rfl
theorem b95:nth B 95=⟨#[109,111,114,101]⟩:=rfl
theorem a96:Str.ofString "zip"=nth A 96:=rfl
theorem b96:nth B 96=⟨#[122,105,112]⟩:=rfl
theorem a97:Str.ofString "NoFit"=nth A 97:=rfl
theorem b97:nth B 97=⟨#[78,111,70,105,116]⟩:=rfl
theorem a98:Str.ofString "the loads have unlike numbers of holes"=nth A 98:=rfl
theorem b98:nth B 98=⟨#[116,104,101,32,108,111,97,100,115,32,104,97,118,101,32,117,110,108,105,107,101,32,110,117,109,98,101,114,115,32,111,102,32,104,111,108,101,115]⟩:=rfl
theorem a99:Str.ofString "counts"=nth A 99:=rfl
theorem b99:nth B 99=⟨#[99,111,117,110,116,115]⟩:=rfl
theorem a100:Str.ofString "prime_sum"=nth A 100:=rfl
theorem b100:nth B 100=⟨#[112,114,105,109,101,95,115,117,109]⟩:=rfl
theorem a101:Str.ofString "holes"=nth A 101:=rfl
theorem b101:nth B 101=⟨#[104,111,108,101,115]⟩:=rfl
theorem a102:Str.ofString "few_primes"=nth A 102:=rfl
theorem b102:nth B 102=⟨#[102,101,119,95,112,114,105,109,101,115]⟩:=rfl
theorem a103:Str.ofString "ring_starts"=nth A 103:=rfl
theorem b103:nth B 103=⟨#[114,105,110,103,95,115,116,97,114,116,115]⟩:=rfl
theorem a104:Str.ofString "extend"=nth A 104:=rfl
theorem b104:nth B 104=⟨#[101,120,116,101,110,100]⟩:=rfl
theorem a105:Str.ofString "laid"=nth A 105:=rfl
theorem b105:nth B 105=⟨#[108,97,105,100]⟩:=rfl
theorem a106:Str.ofString "primes"=nth A 106:=rfl
theorem b106:nth B 106=⟨#[112,114,105,109,101,115]⟩:=rfl
theorem a107:Str.ofString "crossing_last"=nth A 107:=rfl
theorem b107:nth B 107=⟨#[99,114,111,115,115,105,110,103,95,108,97,115,116]⟩:=rfl
theorem a108:Str.ofString "ring_holes"=nth A 108:=rfl
theorem b108:nth B 108=⟨#[114,105,110,103,95,104,111,108,101,115]⟩:=rfl
theorem a109:Str.ofString "small"=nth A 109:=rfl
theorem b109:nth B 109=⟨#[115,109,97,108,108]⟩:=rfl
theorem a110:Str.ofString "great"=nth A 110:=rfl
theorem b110:nth B 110=⟨#[103,114,101,97,116]⟩:=rfl
theorem a111:Str.ofString "evenhub.loads"=nth A 111:=rfl
theorem b111:nth B 111=⟨#[101,118,101,110,104,117,98,46,108,111,97,100,115]⟩:=rfl
theorem a112:Str.ofString "likely_rows"=nth A 112:=rfl
theorem b112:nth B 112=⟨#[108,105,107,101,108,121,95,114,111,119,115]⟩:=rfl
theorem a113:Str.ofString "crossing_rows"=nth A 113:=rfl
theorem b113:nth B 113=⟨#[99,114,111,115,115,105,110,103,95,114,111,119,115]⟩:=rfl
theorem a114:Str.ofString "across"=nth A 114:=rfl
theorem b114:nth B 114=⟨#[97,99,114,111,115,115]⟩:=rfl
theorem a115:Str.ofString "low"=nth A 115:=rfl
theorem b115:nth B 115=⟨#[108,111,119]⟩:=rfl
theorem a116:Str.ofString "key"=nth A 116:=rfl
theorem b116:nth B 116=⟨#[107,101,121]⟩:=rfl
theorem a117:Str.ofString "place"=nth A 117:=rfl
theorem b117:nth B 117=⟨#[112,108,97,99,101]⟩:=rfl
theorem a118:Str.ofString "evenhub.settings"=nth A 118:=rfl
theorem b118:nth B 118=⟨#[101,118,101,110,104,117,98,46,115,101,116,116,105,110,103,115]⟩:=rfl
theorem a119:Str.ofString "evenhub.stacks"=nth A 119:=rfl
theorem b119:nth B 119=⟨#[101,118,101,110,104,117,98,46,115,116,97,99,107,115]⟩:=rfl
theorem a120:Str.ofString "one_prime_sum"=nth A 120:=rfl
theorem b120:nth B 120=⟨#[111,110,101,95,112,114,105,109,101,95,115,117,109]⟩:=rfl
theorem a121:Str.ofString "more than two primes divide the number of holes"=nth A 121:=rfl
theorem b121:nth B 121=⟨#[109,111,114,101,32,116,104,97,110,32,116,119,111,32,112,114,105,109,101,115,32,100,105,118,105,100,101,32,116,104,101,32,110,117,109,98,101,114,32,111,102,32,104,111,108,101,115]⟩:=rfl
theorem a122:Str.ofString "evenhub.rings"=nth A 122:=rfl
theorem b122:nth B 122=⟨#[101,118,101,110,104,117,98,46,114,105,110,103,115]⟩:=rfl
theorem a123:Str.ofString "prime"=nth A 123:=rfl
theorem b123:nth B 123=⟨#[112,114,105,109,101]⟩:=rfl
theorem a124:Str.ofString "power"=nth A 124:=rfl
theorem b124:nth B 124=⟨#[112,111,119,101,114]⟩:=rfl
theorem a125:Str.ofString "NoRing"=nth A 125:=rfl
theorem b125:nth B 125=⟨#[78,111,82,105,110,103]⟩:=rfl
theorem a126:Str.ofString "a ring is of a prime that divides the number of holes"=nth A 126:=rfl
theorem b126:nth B 126=⟨#[97,32,114,105,110,103,32,105,115,32,111,102,32,97,32,112,114,105,109,101,32,116,104,97,116,32,100,105,118,105,100,101,115,32,116,104,101,32,110,117,109,98,101,114,32,111,102,32,104,111,108,101,115]⟩:=rfl
theorem a127:Str.ofString "evenhub.primes"=nth A 127:=rfl
theorem b127:nth B 127=⟨#[101,118,101,110,104,117,98,46,112,114,105,109,101,115]⟩:=rfl
theorem a128:Str.ofString "prime_power"=nth A 128:=rfl
theorem b128:nth B 128=⟨#[112,114,105,109,101,95,112,111,119,101,114]⟩:=rfl
theorem a129:Str.ofString "told"=nth A 129:=rfl
theorem b129:nth B 129=⟨#[116,111,108,100]⟩:=rfl
theorem a130:Str.ofString "euclid"=nth A 130:=rfl
theorem b130:nth B 130=⟨#[101,117,99,108,105,100]⟩:=rfl
theorem a131:Str.ofString "NoTurn"=nth A 131:=rfl
theorem b131:nth B 131=⟨#[78,111,84,117,114,110]⟩:=rfl
theorem a132:Str.ofString "the divisor of the step and the number isn't 1"=nth A 132:=rfl
theorem b132:nth B 132=⟨#[116,104,101,32,100,105,118,105,115,111,114,32,111,102,32,116,104,101,32,115,116,101,112,32,97,110,100,32,116,104,101,32,110,117,109,98,101,114,32,105,115,110,39,116,32,49]⟩:=rfl
theorem a133:Str.ofString "bits"=nth A 133:=rfl
theorem b133:nth B 133=⟨#[98,105,116,115]⟩:=rfl
theorem a134:Str.ofString "rests"=nth A 134:=rfl
theorem b134:nth B 134=⟨#[114,101,115,116,115]⟩:=rfl
theorem a135:Str.ofString "bit_length"=nth A 135:=rfl
theorem b135:nth B 135=⟨#[98,105,116,95,108,101,110,103,116,104]⟩:=rfl
theorem a136:Str.ofString "next_turn"=nth A 136:=rfl
theorem b136:nth B 136=⟨#[110,101,120,116,95,116,117,114,110]⟩:=rfl
theorem a137:Str.ofString "turned_on"=nth A 137:=rfl
theorem b137:nth B 137=⟨#[116,117,114,110,101,100,95,111,110]⟩:=rfl
theorem a138:Str.ofString "pair"=nth A 138:=rfl
theorem b138:nth B 138=⟨#[112,97,105,114]⟩:=rfl
theorem a139:Str.ofString "length"=nth A 139:=rfl
theorem b139:nth B 139=⟨#[108,101,110,103,116,104]⟩:=rfl
theorem a140:Str.ofString "LEAD_BITS"=nth A 140:=rfl
theorem b140:nth B 140=⟨#[76,69,65,68,95,66,73,84,83]⟩:=rfl
theorem a141:Str.ofString "behind"=nth A 141:=rfl
theorem b141:nth B 141=⟨#[98,101,104,105,110,100]⟩:=rfl
theorem a142:Str.ofString "sure_turn"=nth A 142:=rfl
theorem b142:nth B 142=⟨#[115,117,114,101,95,116,117,114,110]⟩:=rfl
theorem a143:Str.ofString "later_rest"=nth A 143:=rfl
theorem b143:nth B 143=⟨#[108,97,116,101,114,95,114,101,115,116]⟩:=rfl
theorem a144:Str.ofString "new_rest"=nth A 144:=rfl
theorem b144:nth B 144=⟨#[110,101,119,95,114,101,115,116]⟩:=rfl
theorem a145:Str.ofString "further"=nth A 145:=rfl
theorem b145:nth B 145=⟨#[102,117,114,116,104,101,114]⟩:=rfl
theorem a146:Str.ofString "doubt"=nth A 146:=rfl
theorem b146:nth B 146=⟨#[100,111,117,98,116]⟩:=rfl
theorem a147:Str.ofString "evenhub.wholes"=nth A 147:=rfl
theorem b147:nth B 147=⟨#[101,118,101,110,104,117,98,46,119,104,111,108,101,115]⟩:=rfl
theorem a148:Str.ofString "HubError"=nth A 148:=rfl
theorem b148:nth B 148=⟨#[72,117,98,69,114,114,111,114]⟩:=rfl
theorem a149:Str.ofString "evenhub.errors"=nth A 149:=rfl
theorem b149:nth B 149=⟨#[101,118,101,110,104,117,98,46,101,114,114,111,114,115]⟩:=rfl
theorem a150:Str.ofString "ValueError"=nth A 150:=rfl
theorem b150:nth B 150=⟨#[86,97,108,117,101,69,114,114,111,114]⟩:=rfl
theorem a151:Str.ofString "/claim/cut.py"=nth A 151:=rfl
theorem b151:nth B 151=⟨#[47,99,108,97,105,109,47,99,117,116,46,112,121]⟩:=rfl
theorem cc {a b:Str}{l m:List Str}(h:a=b)(k:l=m):a::l=b::m:=by rw[h,k]
set_option maxRecDepth 100000 in
theorem AB:A=B:=
 cc (PySem.W.Fast.ofString_ofList ['_','l','a','w','_','o','f','_','t','w','o']) <|
 cc (PySem.W.Fast.ofString_ofList ['c','e','l','l']) <|
 cc (PySem.W.Fast.ofString_ofList ['n']) <|
 cc (PySem.W.Fast.ofString_ofList ['s','o','m','e']) <|
 cc (PySem.W.Fast.ofString_ofList ['_','l','a','w','_','p','r','i','m','e','s']) <|
 cc (PySem.W.Fast.ofString_ofList ['p']) <|
 cc (PySem.W.Fast.ofString_ofList ['_','l','a','w','_','c','a','n']) <|
 cc (PySem.W.Fast.ofString_ofList ['m','a','n','y']) <|
 cc (PySem.W.Fast.ofString_ofList ['k']) <|
 cc (PySem.W.Fast.ofString_ofList ['r','a','n','g','e']) <|
 cc (PySem.W.Fast.ofString_ofList ['l','e','f','t']) <|
 cc (PySem.W.Fast.ofString_ofList ['l','e','n']) <|
 cc (PySem.W.Fast.ofString_ofList ['_','l','a','w','_','s','e','t','t','i','n','g','_','g','o','o','d']) <|
 cc (PySem.W.Fast.ofString_ofList ['f','o','u','n','d']) <|
 cc (PySem.W.Fast.ofString_ofList ['s','e','t','t','i','n','g']) <|
 cc (PySem.W.Fast.ofString_ofList ['g','o','o','d']) <|
 cc (PySem.W.Fast.ofString_ofList ['i','s','i','n','s','t','a','n','c','e']) <|
 cc (PySem.W.Fast.ofString_ofList ['l','i','s','t']) <|
 cc (PySem.W.Fast.ofString_ofList ['t','o','t','a','l']) <|
 cc (PySem.W.Fast.ofString_ofList ['w','h','o','l','e']) <|
 cc (PySem.W.Fast.ofString_ofList ['c','o','u','n','t']) <|
 cc (PySem.W.Fast.ofString_ofList ['h','o','l','e']) <|
 cc (PySem.W.Fast.ofString_ofList ['_','l','a','w','_','n','u','m','b','e','r']) <|
 cc (PySem.W.Fast.ofString_ofList ['a','d','d','e','d']) <|
 cc (PySem.W.Fast.ofString_ofList ['t','u','r','n']) <|
 cc (PySem.W.Fast.ofString_ofList ['l','a','w']) <|
 cc (PySem.W.Fast.ofString_ofList ['s','c','r','i','p','t']) <|
 cc (PySem.W.Fast.ofString_ofList ['_','l','a','w','_','c','e','l','l','_','a','t']) <|
 cc (PySem.W.Fast.ofString_ofList ['l','o','a','d']) <|
 cc (PySem.W.Fast.ofString_ofList ['m','i','n']) <|
 cc (PySem.W.Fast.ofString_ofList ['j']) <|
 cc (PySem.W.Fast.ofString_ofList ['a','t']) <|
 cc (PySem.W.Fast.ofString_ofList ['b','e','n','t']) <|
 cc (PySem.W.Fast.ofString_ofList ['m','a','x']) <|
 cc (PySem.W.Fast.ofString_ofList ['m','u','c','h']) <|
 cc (PySem.W.Fast.ofString_ofList ['s','t','a','c','k','e','d']) <|
 cc (PySem.W.Fast.ofString_ofList ['v','a','l','u','e']) <|
 cc (PySem.W.Fast.ofString_ofList ['_','l','a','w','_','l','e','s','s','_','r','o','w','s']) <|
 cc (PySem.W.Fast.ofString_ofList ['r','o','w']) <|
 cc (PySem.W.Fast.ofString_ofList ['.','0']) <|
 cc (PySem.W.Fast.ofString_ofList ['f','a','s','t']) <|
 cc (PySem.W.Fast.ofString_ofList ['i','n','t']) <|
 cc (PySem.W.Fast.ofString_ofList ['b','o','o','l']) <|
 cc (PySem.W.Fast.ofString_ofList ['m','a','d','e']) <|
 cc (PySem.W.Fast.ofString_ofList ['a','p','p','e','n','d']) <|
 cc (PySem.W.Fast.ofString_ofList ['r','o','w','s']) <|
 cc (PySem.W.Fast.ofString_ofList ['s','e','e','n']) <|
 cc (PySem.W.Fast.ofString_ofList ['t','u','p','l','e']) <|
 cc (PySem.W.Fast.ofString_ofList ['j','o','i','n','t','_','w','h','e','e','l']) <|
 cc (PySem.W.Fast.ofString_ofList ['x']) <|
 cc (PySem.W.Fast.ofString_ofList ['y']) <|
 cc (PySem.W.Fast.ofString_ofList ['j','o','i','n','t']) <|
 cc (PySem.W.Fast.ofString_ofList ['M','O','S','T','_','H','O','L','E','S']) <|
 cc (PySem.W.Fast.ofString_ofList ['T','o','o','W','i','d','e']) <|
 cc (PySem.W.Fast.ofString_ofList ['t','h','e',' ','j','o','i','n','t',' ','w','h','e','e','l',' ','o','f',' ','b','o','t','h',' ','v','a','l','u','e','s',' ','w','o','u','l','d',' ','h','a','v','e',' ','m','o','r','e',' ','t','h','a','n',' ']) <|
 cc (PySem.W.Fast.ofString_ofList [' ','h','o','l','e','s']) <|
 cc (PySem.W.Fast.ofString_ofList ['r','a','i','s','e','d']) <|
 cc (PySem.W.Fast.ofString_ofList ['s','c','a','l','e','d']) <|
 cc (PySem.W.Fast.ofString_ofList ['o','n']) <|
 cc (PySem.W.Fast.ofString_ofList ['p','l','u','s']) <|
 cc (PySem.W.Fast.ofString_ofList ['_','_','n','a','m','e','_','_']) <|
 cc (PySem.W.Fast.ofString_ofList ['l','a','w','_','e','v','e','n','h','u','b','_','k','9','5','_','w','h','o','l','e','_','s','e','t','t','i','n','g','s','_','a','s','_','s','u','m','s']) <|
 cc (PySem.W.Fast.ofString_ofList ['d','i','v','i','s','o','r','_','o','f','_','a','l','l']) <|
 cc (PySem.W.Fast.ofString_ofList ['f','i','r','s','t']) <|
 cc (PySem.W.Fast.ofString_ofList ['o','t','h','e','r','s']) <|
 cc (PySem.W.Fast.ofString_ofList ['o','u','t','c','o','m','e']) <|
 cc (PySem.W.Fast.ofString_ofList ['a','b','s']) <|
 cc (PySem.W.Fast.ofString_ofList ['n','u','m','b','e','r']) <|
 cc (PySem.W.Fast.ofString_ofList ['d','i','v','i','s','o','r']) <|
 cc (PySem.W.Fast.ofString_ofList ['h','u','n','g']) <|
 cc (PySem.W.Fast.ofString_ofList ['N','o','W','h','e','e','l']) <|
 cc (PySem.W.Fast.ofString_ofList ['t','h','e',' ','n','u','m','b','e','r',' ','o','f',' ','h','o','l','e','s',' ','o','f',' ','t','h','e',' ','v','a','l','u','e',Char.ofNat 39,'s',' ','o','w','n',' ','w','h','e','e','l',' ','d','o','e','s','n',Char.ofNat 39,'t',' ','d','i','v','i','d','e',' ','t','h','a','t',' ','o','f',' ','t','h','e',' ','o','t','h','e','r']) <|
 cc (PySem.W.Fast.ofString_ofList ['f','i','n','e','r']) <|
 cc (PySem.W.Fast.ofString_ofList ['r','e','s','t']) <|
 cc (PySem.W.Fast.ofString_ofList ['q']) <|
 cc (PySem.W.Fast.ofString_ofList ['p','a','r','t','s']) <|
 cc (PySem.W.Fast.ofString_ofList ['d','r','o','p','p','e','d']) <|
 cc (PySem.W.Fast.ofString_ofList ['l','a','y','_','r','i','n','g']) <|
 cc (PySem.W.Fast.ofString_ofList ['l','e','a','d']) <|
 cc (PySem.W.Fast.ofString_ofList ['b','a','c','k']) <|
 cc (PySem.W.Fast.ofString_ofList ['f','i','r','s','t','_','d','r','o','p','p','e','d']) <|
 cc (PySem.W.Fast.ofString_ofList ['e','v','e','n','h','u','b','.','t','e','l','l','i','n','g','s']) <|
 cc (PySem.W.Fast.ofString_ofList ['b','o','t','t','o','m']) <|
 cc (PySem.W.Fast.ofString_ofList ['N','o','N','u','m','b','e','r']) <|
 cc (PySem.W.Fast.ofString_ofList ['a',' ','l','o','a','d',' ','i','s',' ','n','o','t',' ','d','i','v','i','d','e','d',' ','b','y',' ','0']) <|
 cc (PySem.W.Fast.ofString_ofList ['s','t','e','p']) <|
 cc (PySem.W.Fast.ofString_ofList ['w','e','i','g','h','t']) <|
 cc (PySem.W.Fast.ofString_ofList ['e','n','u','m','e','r','a','t','e']) <|
 cc (PySem.W.Fast.ofString_ofList ['w','e','i','g','h','t','s']) <|
 cc (PySem.W.Fast.ofString_ofList ['b','y']) <|
 cc (PySem.W.Fast.ofString_ofList ['t','h','e',' ','f','i','n','e','r',' ','w','h','e','e','l',' ','w','o','u','l','d',' ','h','a','v','e',' ','m','o','r','e',' ','t','h','a','n',' ']) <|
 cc (PySem.W.Fast.ofString_ofList ['e','v','e','n','h','u','b','.','r','e','s','t','s']) <|
 cc (PySem.W.Fast.ofString_ofList ['o','n','e']) <|
 cc (PySem.W.Fast.ofString_ofList ['o','t','h','e','r']) <|
 cc (PySem.W.Fast.ofString_ofList ['c','h','e','c','k','_','f','i','t']) <|
 cc (PySem.W.Fast.ofString_ofList ['m','o','r','e']) <|
 cc (PySem.W.Fast.ofString_ofList ['z','i','p']) <|
 cc (PySem.W.Fast.ofString_ofList ['N','o','F','i','t']) <|
 cc (PySem.W.Fast.ofString_ofList ['t','h','e',' ','l','o','a','d','s',' ','h','a','v','e',' ','u','n','l','i','k','e',' ','n','u','m','b','e','r','s',' ','o','f',' ','h','o','l','e','s']) <|
 cc (PySem.W.Fast.ofString_ofList ['c','o','u','n','t','s']) <|
 cc (PySem.W.Fast.ofString_ofList ['p','r','i','m','e','_','s','u','m']) <|
 cc (PySem.W.Fast.ofString_ofList ['h','o','l','e','s']) <|
 cc (PySem.W.Fast.ofString_ofList ['f','e','w','_','p','r','i','m','e','s']) <|
 cc (PySem.W.Fast.ofString_ofList ['r','i','n','g','_','s','t','a','r','t','s']) <|
 cc (PySem.W.Fast.ofString_ofList ['e','x','t','e','n','d']) <|
 cc (PySem.W.Fast.ofString_ofList ['l','a','i','d']) <|
 cc (PySem.W.Fast.ofString_ofList ['p','r','i','m','e','s']) <|
 cc (PySem.W.Fast.ofString_ofList ['c','r','o','s','s','i','n','g','_','l','a','s','t']) <|
 cc (PySem.W.Fast.ofString_ofList ['r','i','n','g','_','h','o','l','e','s']) <|
 cc (PySem.W.Fast.ofString_ofList ['s','m','a','l','l']) <|
 cc (PySem.W.Fast.ofString_ofList ['g','r','e','a','t']) <|
 cc (PySem.W.Fast.ofString_ofList ['e','v','e','n','h','u','b','.','l','o','a','d','s']) <|
 cc (PySem.W.Fast.ofString_ofList ['l','i','k','e','l','y','_','r','o','w','s']) <|
 cc (PySem.W.Fast.ofString_ofList ['c','r','o','s','s','i','n','g','_','r','o','w','s']) <|
 cc (PySem.W.Fast.ofString_ofList ['a','c','r','o','s','s']) <|
 cc (PySem.W.Fast.ofString_ofList ['l','o','w']) <|
 cc (PySem.W.Fast.ofString_ofList ['k','e','y']) <|
 cc (PySem.W.Fast.ofString_ofList ['p','l','a','c','e']) <|
 cc (PySem.W.Fast.ofString_ofList ['e','v','e','n','h','u','b','.','s','e','t','t','i','n','g','s']) <|
 cc (PySem.W.Fast.ofString_ofList ['e','v','e','n','h','u','b','.','s','t','a','c','k','s']) <|
 cc (PySem.W.Fast.ofString_ofList ['o','n','e','_','p','r','i','m','e','_','s','u','m']) <|
 cc (PySem.W.Fast.ofString_ofList ['m','o','r','e',' ','t','h','a','n',' ','t','w','o',' ','p','r','i','m','e','s',' ','d','i','v','i','d','e',' ','t','h','e',' ','n','u','m','b','e','r',' ','o','f',' ','h','o','l','e','s']) <|
 cc (PySem.W.Fast.ofString_ofList ['e','v','e','n','h','u','b','.','r','i','n','g','s']) <|
 cc (PySem.W.Fast.ofString_ofList ['p','r','i','m','e']) <|
 cc (PySem.W.Fast.ofString_ofList ['p','o','w','e','r']) <|
 cc (PySem.W.Fast.ofString_ofList ['N','o','R','i','n','g']) <|
 cc (PySem.W.Fast.ofString_ofList ['a',' ','r','i','n','g',' ','i','s',' ','o','f',' ','a',' ','p','r','i','m','e',' ','t','h','a','t',' ','d','i','v','i','d','e','s',' ','t','h','e',' ','n','u','m','b','e','r',' ','o','f',' ','h','o','l','e','s']) <|
 cc (PySem.W.Fast.ofString_ofList ['e','v','e','n','h','u','b','.','p','r','i','m','e','s']) <|
 cc (PySem.W.Fast.ofString_ofList ['p','r','i','m','e','_','p','o','w','e','r']) <|
 cc (PySem.W.Fast.ofString_ofList ['t','o','l','d']) <|
 cc (PySem.W.Fast.ofString_ofList ['e','u','c','l','i','d']) <|
 cc (PySem.W.Fast.ofString_ofList ['N','o','T','u','r','n']) <|
 cc (PySem.W.Fast.ofString_ofList ['t','h','e',' ','d','i','v','i','s','o','r',' ','o','f',' ','t','h','e',' ','s','t','e','p',' ','a','n','d',' ','t','h','e',' ','n','u','m','b','e','r',' ','i','s','n',Char.ofNat 39,'t',' ','1']) <|
 cc (PySem.W.Fast.ofString_ofList ['b','i','t','s']) <|
 cc (PySem.W.Fast.ofString_ofList ['r','e','s','t','s']) <|
 cc (PySem.W.Fast.ofString_ofList ['b','i','t','_','l','e','n','g','t','h']) <|
 cc (PySem.W.Fast.ofString_ofList ['n','e','x','t','_','t','u','r','n']) <|
 cc (PySem.W.Fast.ofString_ofList ['t','u','r','n','e','d','_','o','n']) <|
 cc (PySem.W.Fast.ofString_ofList ['p','a','i','r']) <|
 cc (PySem.W.Fast.ofString_ofList ['l','e','n','g','t','h']) <|
 cc (PySem.W.Fast.ofString_ofList ['L','E','A','D','_','B','I','T','S']) <|
 cc (PySem.W.Fast.ofString_ofList ['b','e','h','i','n','d']) <|
 cc (PySem.W.Fast.ofString_ofList ['s','u','r','e','_','t','u','r','n']) <|
 cc (PySem.W.Fast.ofString_ofList ['l','a','t','e','r','_','r','e','s','t']) <|
 cc (PySem.W.Fast.ofString_ofList ['n','e','w','_','r','e','s','t']) <|
 cc (PySem.W.Fast.ofString_ofList ['f','u','r','t','h','e','r']) <|
 cc (PySem.W.Fast.ofString_ofList ['d','o','u','b','t']) <|
 cc (PySem.W.Fast.ofString_ofList ['e','v','e','n','h','u','b','.','w','h','o','l','e','s']) <|
 cc (PySem.W.Fast.ofString_ofList ['H','u','b','E','r','r','o','r']) <|
 cc (PySem.W.Fast.ofString_ofList ['e','v','e','n','h','u','b','.','e','r','r','o','r','s']) <|
 cc (PySem.W.Fast.ofString_ofList ['V','a','l','u','e','E','r','r','o','r']) <|
 cc (PySem.W.Fast.ofString_ofList ['/','c','l','a','i','m','/','c','u','t','.','p','y']) <|
 rfl
set_option maxRecDepth 100000 in
noncomputable def G:{g:List Str→Program // PySem.Challenge.pw_evenhub_k95_whole_settings_as_sums=g A}:=by
 refine⟨?g,?h⟩
 case h =>
  delta PySem.Challenge.pw_evenhub_k95_whole_settings_as_sums
  dsimp only [a0,a1,a2,a3,a4,a5,a6,a7,a8,a9,a10,a11,a12,a13,a14,a15,a16,a17,a18,a19,a20,a21,a22,a23,a24,a25,a26,a27,a28,a29,a30,a31,a32,a33,a34,a35,a36,a37,a38,a39,a40,a41,a42,a43,a44,a45,a46,a47,a48,a49,a50,a51,a52,a53,a54,a55,a56,a57,a58,a59,a60,a61,a62,a63,a64,a65,a66,a67,a68,a69,a70,a71,a72,a73,a74,a75,a76,a77,a78,a79,a80,a81,a82,a83,a84,a85,a86,a87,a88,a89,a90,a91,a92,a93,a94,a95,a96,a97,a98,a99,a100,a101,a102,a103,a104,a105,a106,a107,a108,a109,a110,a111,a112,a113,a114,a115,a116,a117,a118,a119,a120,a121,a122,a123,a124,a125,a126,a127,a128,a129,a130,a131,a132,a133,a134,a135,a136,a137,a138,a139,a140,a141,a142,a143,a144,a145,a146,a147,a148,a149,a150,a151]
  generalize A=f
  exact rfl
set_option maxRecDepth 100000 in
noncomputable def Y:{y:Program // G.1 B=y}:=by
 refine⟨?y,?h⟩
 case h =>
  delta G
  dsimp only [b0,b1,b2,b3,b4,b5,b6,b7,b8,b9,b10,b11,b12,b13,b14,b15,b16,b17,b18,b19,b20,b21,b22,b23,b24,b25,b26,b27,b28,b29,b30,b31,b32,b33,b34,b35,b36,b37,b38,b39,b40,b41,b42,b43,b44,b45,b46,b47,b48,b49,b50,b51,b52,b53,b54,b55,b56,b57,b58,b59,b60,b61,b62,b63,b64,b65,b66,b67,b68,b69,b70,b71,b72,b73,b74,b75,b76,b77,b78,b79,b80,b81,b82,b83,b84,b85,b86,b87,b88,b89,b90,b91,b92,b93,b94,b95,b96,b97,b98,b99,b100,b101,b102,b103,b104,b105,b106,b107,b108,b109,b110,b111,b112,b113,b114,b115,b116,b117,b118,b119,b120,b121,b122,b123,b124,b125,b126,b127,b128,b129,b130,b131,b132,b133,b134,b135,b136,b137,b138,b139,b140,b141,b142,b143,b144,b145,b146,b147,b148,b149,b150,b151]
  exact rfl
end PwT
noncomputable def PySem.W.Fast.tw643089970516983309:PySem.Program:=PwT.Y.1
theorem PySem.W.Fast.te643089970516983309:PySem.Challenge.pw_evenhub_k95_whole_settings_as_sums=PySem.W.Fast.tw643089970516983309:=(PwT.G.2.trans (congrArg PwT.G.1 PwT.AB)).trans PwT.Y.2
namespace Hd
open PySem PySem.W
noncomputable abbrev TW:PySem.Program:=PySem.W.Fast.tw643089970516983309
noncomputable def tp (i:Nat):PySem.Stmt:=TW.main.body.getD i (.Pass ⟨0,0,0,0⟩)
noncomputable abbrev E (P:Params)(q:PySem.Str)(t:Nat)(v:Value):DictEntry:=⟨PyData.keyHash P q,.str q t,v⟩
noncomputable abbrev I (n t:Nat):Value:=.int (Int.ofNat n) t
noncomputable abbrev l0:String:=PySem.W.SL.s2766695959194262286x5
noncomputable def o0:Params→Obj:=fun P=>Obj.mk (.type l0) none (.seq ⟨[]⟩ 0) ⟨[]⟩
noncomputable def o2:Params→Obj:=fun P=>Obj.mk .none none (.fields ⟨[]⟩) ⟨[]⟩
noncomputable abbrev l1:String:=PySem.W.SL.s5856160107412720595x4
noncomputable def q0:PySem.Str:=⟨Array.mk [60,109,111,100,117,108,101,62]⟩
noncomputable def q1:PySem.Str:=⟨Array.mk [47,99,108,97,105,109,47,99,117,116,46,112,121]⟩
noncomputable def o3:Params→Obj:=fun P=>Obj.mk (.type l1) none (.fields ⟨[(.str q0 182),(.str q0 183),(.str q1 184),(I 1 0),(I 0 0),(I 0 0),(I 0 0),(I 0 0),(.ref 11),(.bool Bool.false),(I 181 0),(.ref 12),.none,.none,.none,.none,(I 185 0),(I 1 0),(.str q1 186)]⟩) ⟨[]⟩
noncomputable abbrev l2:String:=PySem.W.SL.s658472552662922059x5
noncomputable def q2:PySem.Str:=⟨Array.mk [95,95,109,97,105,110,95,95]⟩
noncomputable def o7:Params→Obj:=fun P=>Obj.mk (.type l2) none .plain ⟨[(some (.ref 13)),(some (.ref 3)),(some (.ref 3)),none,(some (.str q2 164)),none,(some (.ref 0))]⟩
noncomputable def Ta:PySem.Params→PySem.W.BT:=fun P=>(.node (PySem.W.boot_o_0 P) (.node (PySem.W.boot_o_1 P) (.node (PySem.W.boot_o_3 P) (.node (PySem.W.boot_o_7 P) .nil .nil) (.node (o0 P) .nil .nil)) (.node (PySem.W.boot_o_5 P) (.node (PySem.W.boot_o_9 P) .nil .nil) (.node (o3 P) .nil .nil))) (.node (PySem.W.boot_o_2 P) (.node (PySem.W.boot_o_4 P) (.node (PySem.W.boot_o_8 P) .nil .nil) (.node (o2 P) .nil .nil)) (.node (PySem.W.boot_o_6 P) (.node (PySem.W.boot_o_10 P) .nil .nil) (.node (o7 P) .nil .nil))))
noncomputable def Sta (w:PySem.World)(os:PySem.OsState):PySem.W.SharedT:=PySem.W.SharedT.mk (Ta w.params) 15 (PySem.Life.mk [] [] [] 0 [] [] Bool.false ⟨[]⟩ [] 0 Bool.false Bool.false Bool.false (Int.ofNat 0) [(Int.ofNat 2000),(Int.ofNat 10),(Int.ofNat 10)] Bool.false 0 Bool.true [] [] 0 Bool.false) (Array.mk []) (PySem.Drawn.mk 0 0 0 0) 187 os
noncomputable def Tb:PySem.Params→PySem.W.BT:=fun P=>(.node (PySem.W.boot_o_0 P) (.node (PySem.W.boot_o_1 P) (.node (PySem.W.boot_o_3 P) (.node (PySem.W.boot_o_7 P) .nil .nil) (.node (o0 P) .nil .nil)) (.node (PySem.W.boot_o_5 P) (.node (PySem.W.boot_o_9 P) .nil .nil) (.node (o3 P) .nil .nil))) (.node (PySem.W.boot_o_2 P) (.node (PySem.W.boot_o_4 P) (.node (PySem.W.boot_o_8 P) .nil .nil) (.node (o2 P) .nil .nil)) (.node (PySem.W.boot_o_6 P) (.node (PySem.W.boot_o_10 P) .nil .nil) (.node (o7 P) .nil .nil))))
noncomputable def Stb (w:PySem.World)(os:PySem.OsState):PySem.W.SharedT:=PySem.W.SharedT.mk (Tb w.params) 15 (PySem.Life.mk [] [] [] 0 [] [] Bool.false ⟨[]⟩ [] 0 Bool.false Bool.false Bool.false (Int.ofNat 0) [(Int.ofNat 2000),(Int.ofNat 10),(Int.ofNat 10)] Bool.false 0 Bool.true [] [] 0 Bool.false) (Array.mk []) (PySem.Drawn.mk 0 0 0 0) 187 os
noncomputable def env:PySem.Env:={ scope:=TW.main.scope,locals:=PySem.mainNs,globals:=PySem.mainNs,cells:=[],code:=(.ref 13),frame:=some 14 }
abbrev ann:Option PySem.Value:=(some (.ref 6))
abbrev m0:Nat:=11
abbrev Bs:List PySem.Frame:=[PySem.W.topFrame (PySem.Pos.mk 0 0 0 0)]
noncomputable abbrev cE:PySem.Code:=.body (behindTheImports TW) env
abbrev posA:PySem.Pos:=(PySem.Pos.mk 0 0 0 0)
abbrev posB:PySem.Pos:=(PySem.Pos.mk 0 0 0 0)
abbrev kA:Nat:=12
abbrev kB:Nat:=0
abbrev kF:Nat:=1
noncomputable abbrev l3:String:=PySem.W.SL.s14018661285674007319x4
noncomputable def q3:PySem.Str:=⟨Array.mk [95,95,110,97,109,101,95,95]⟩
noncomputable def q4:PySem.Str:=⟨Array.mk [108,97,119,95,101,118,101,110,104,117,98,95,107,57,53,95,119,104,111,108,101,95,115,101,116,116,105,110,103,115,95,97,115,95,115,117,109,115]⟩
noncomputable def q5:PySem.Str:=⟨Array.mk [95,95,100,111,99,95,95]⟩
noncomputable def q6:PySem.Str:=⟨Array.mk [95,95,112,97,99,107,97,103,101,95,95]⟩
noncomputable def q7:PySem.Str:=⟨Array.mk [95,95,108,111,97,100,101,114,95,95]⟩
noncomputable abbrev l4:String:=PySem.W.SL.s7097527257260152453x26
noncomputable def q8:PySem.Str:=⟨Array.mk [95,95,115,112,101,99,95,95]⟩
noncomputable def q9:PySem.Str:=⟨Array.mk [95,95,97,110,110,111,116,97,116,105,111,110,115,95,95]⟩
noncomputable def q10:PySem.Str:=⟨Array.mk [95,95,98,117,105,108,116,105,110,115,95,95]⟩
noncomputable def q11:PySem.Str:=⟨Array.mk [95,95,102,105,108,101,95,95]⟩
noncomputable def q12:PySem.Str:=⟨Array.mk [95,95,99,97,99,104,101,100,95,95]⟩
noncomputable def q13:PySem.Str:=⟨Array.mk [72,117,98,69,114,114,111,114]⟩
noncomputable def q14:PySem.Str:=⟨Array.mk [78,111,84,117,114,110]⟩
noncomputable def q15:PySem.Str:=⟨Array.mk [78,111,70,105,116]⟩
noncomputable def q16:PySem.Str:=⟨Array.mk [84,111,111,87,105,100,101]⟩
noncomputable def q17:PySem.Str:=⟨Array.mk [78,111,82,105,110,103]⟩
noncomputable def q18:PySem.Str:=⟨Array.mk [78,111,87,104,101,101,108]⟩
noncomputable def q19:PySem.Str:=⟨Array.mk [78,111,78,117,109,98,101,114]⟩
noncomputable def q20:PySem.Str:=⟨Array.mk [76,69,65,68,95,66,73,84,83]⟩
noncomputable def q21:PySem.Str:=⟨Array.mk [100,105,118,105,115,111,114]⟩
noncomputable def q22:PySem.Str:=⟨Array.mk [106,111,105,110,116]⟩
noncomputable def q23:PySem.Str:=⟨Array.mk [101,117,99,108,105,100]⟩
noncomputable def q24:PySem.Str:=⟨Array.mk [116,117,114,110,101,100,95,111,110]⟩
noncomputable def q25:PySem.Str:=⟨Array.mk [110,101,120,116,95,116,117,114,110]⟩
noncomputable def q26:PySem.Str:=⟨Array.mk [115,117,114,101,95,116,117,114,110]⟩
noncomputable def q27:PySem.Str:=⟨Array.mk [112,97,114,116,115]⟩
noncomputable def q28:PySem.Str:=⟨Array.mk [112,114,105,109,101,95,112,111,119,101,114]⟩
noncomputable def q29:PySem.Str:=⟨Array.mk [98,97,99,107]⟩
noncomputable def q30:PySem.Str:=⟨Array.mk [108,97,105,100]⟩
noncomputable def q31:PySem.Str:=⟨Array.mk [108,97,121,95,114,105,110,103]⟩
noncomputable def q32:PySem.Str:=⟨Array.mk [114,105,110,103,95,104,111,108,101,115]⟩
noncomputable def q33:PySem.Str:=⟨Array.mk [112,114,105,109,101,95,115,117,109]⟩
noncomputable def q34:PySem.Str:=⟨Array.mk [102,101,119,95,112,114,105,109,101,115]⟩
noncomputable def q35:PySem.Str:=⟨Array.mk [111,110,101,95,112,114,105,109,101,95,115,117,109]⟩
noncomputable def q36:PySem.Str:=⟨Array.mk [115,116,97,99,107,101,100]⟩
noncomputable def q37:PySem.Str:=⟨Array.mk [108,105,107,101,108,121,95,114,111,119,115]⟩
noncomputable def q38:PySem.Str:=⟨Array.mk [99,114,111,115,115,105,110,103,95,114,111,119,115]⟩
noncomputable def q39:PySem.Str:=⟨Array.mk [115,101,116,116,105,110,103]⟩
noncomputable def q40:PySem.Str:=⟨Array.mk [114,105,110,103,95,115,116,97,114,116,115]⟩
noncomputable def q41:PySem.Str:=⟨Array.mk [99,114,111,115,115,105,110,103,95,108,97,115,116]⟩
noncomputable def q42:PySem.Str:=⟨Array.mk [77,79,83,84,95,72,79,76,69,83]⟩
noncomputable def q43:PySem.Str:=⟨Array.mk [104,117,110,103]⟩
noncomputable def q44:PySem.Str:=⟨Array.mk [112,108,117,115]⟩
noncomputable def q45:PySem.Str:=⟨Array.mk [99,104,101,99,107,95,102,105,116]⟩
noncomputable def q46:PySem.Str:=⟨Array.mk [115,99,97,108,101,100]⟩
noncomputable def q47:PySem.Str:=⟨Array.mk [102,105,110,101,114]⟩
noncomputable def q48:PySem.Str:=⟨Array.mk [102,105,114,115,116,95,100,114,111,112,112,101,100]⟩
noncomputable def q49:PySem.Str:=⟨Array.mk [114,101,115,116]⟩
noncomputable def q50:PySem.Str:=⟨Array.mk [100,114,111,112,112,101,100]⟩
noncomputable def q51:PySem.Str:=⟨Array.mk [118,97,108,117,101]⟩
noncomputable def q52:PySem.Str:=⟨Array.mk [100,105,118,105,115,111,114,95,111,102,95,97,108,108]⟩
noncomputable def q53:PySem.Str:=⟨Array.mk [119,104,111,108,101]⟩
noncomputable def q54:PySem.Str:=⟨Array.mk [116,117,114,110]⟩
noncomputable def q55:PySem.Str:=⟨Array.mk [111,110]⟩
noncomputable def q56:PySem.Str:=⟨Array.mk [106,111,105,110,116,95,119,104,101,101,108]⟩
noncomputable def q57:PySem.Str:=⟨Array.mk [114,97,105,115,101,100]⟩
noncomputable def q58:PySem.Str:=⟨Array.mk [97,100,100,101,100]⟩
noncomputable def q59:PySem.Str:=⟨Array.mk [95,108,97,119,95,99,101,108,108,95,97,116]⟩
noncomputable def q60:PySem.Str:=⟨Array.mk [95,108,97,119,95,110,117,109,98,101,114]⟩
noncomputable def q61:PySem.Str:=⟨Array.mk [95,108,97,119,95,112,114,105,109,101,115]⟩
noncomputable def q62:PySem.Str:=⟨Array.mk [95,108,97,119,95,108,101,115,115,95,114,111,119,115]⟩
noncomputable def q63:PySem.Str:=⟨Array.mk [95,108,97,119,95,111,102,95,116,119,111]⟩
noncomputable def q64:PySem.Str:=⟨Array.mk [95,108,97,119,95,99,97,110]⟩
noncomputable def q65:PySem.Str:=⟨Array.mk [95,108,97,119,95,115,101,116,116,105,110,103,95,103,111,111,100]⟩
noncomputable def q66:PySem.Str:=⟨Array.mk [108,97,119]⟩
noncomputable def o24:Params→Obj:=fun P=>Obj.mk (.type l3) none (.dict ⟨[(E P q3 165 (.str q4 646)),(E P q5 166 .none),(E P q6 167 .none),(E P q7 168 (.builtin l4)),(E P q8 169 .none),(E P q9 170 (.ref 6)),(E P q10 171 (.ref 4)),(E P q11 173 (.str q1 172)),(E P q12 174 .none),(E P q13 206 (.ref 24)),(E P q14 222 (.ref 37)),(E P q15 238 (.ref 49)),(E P q16 254 (.ref 61)),(E P q17 270 (.ref 73)),(E P q18 286 (.ref 85)),(E P q19 302 (.ref 97)),(E P q20 306 (I 128 305)),(E P q21 317 (.ref 106)),(E P q22 325 (.ref 113)),(E P q23 337 (.ref 120)),(E P q24 345 (.ref 127)),(E P q25 356 (.ref 134)),(E P q26 369 (.ref 141)),(E P q27 382 (.ref 148)),(E P q28 391 (.ref 155)),(E P q29 400 (.ref 162)),(E P q30 408 (.ref 167)),(E P q31 419 (.ref 174)),(E P q32 429 (.ref 181)),(E P q33 444 (.ref 188)),(E P q34 450 (.ref 193)),(E P q35 456 (.ref 198)),(E P q36 462 (.ref 203)),(E P q37 468 (.ref 208)),(E P q38 474 (.ref 213)),(E P q39 482 (.ref 218)),(E P q40 490 (.ref 225)),(E P q41 501 (.ref 232)),(E P q42 505 (I 420 504)),(E P q43 515 (.ref 239)),(E P q44 521 (.ref 244)),(E P q45 529 (.ref 251)),(E P q46 535 (.ref 256)),(E P q47 547 (.ref 263)),(E P q48 557 (.ref 270)),(E P q49 571 (.ref 277)),(E P q50 577 (.ref 282)),(E P q51 585 (.ref 287)),(E P q52 595 (.ref 294)),(E P q53 602 (.ref 301)),(E P q54 610 (.ref 308)),(E P q55 618 (.ref 315)),(E P q56 627 (.ref 322)),(E P q57 636 (.ref 329)),(E P q58 645 (.ref 336)),(E P q59 655 (.ref 343)),(E P q60 662 (.ref 350)),(E P q61 672 (.ref 357)),(E P q62 687 (.ref 364)),(E P q63 697 (.ref 371)),(E P q64 707 (.ref 378)),(E P q65 721 (.ref 385)),(E P q66 727 (.ref 390))]⟩ 63) ⟨[]⟩
noncomputable def o91:Params→Obj:=fun P=>Obj.mk .none none (.fields ⟨[(I 2 0),(I 0 0),(.ref 20),(I 4 0),(I 0 0),(.ref 33),(I 6 0),(I 0 0),(.ref 45),(I 8 0),(I 0 0),(.ref 57),(I 10 0),(I 0 0),(.ref 69),(I 12 0),(I 0 0),(.ref 81),(I 14 0),(I 0 0),(.ref 93),(I 18 0),(I 0 0),(.ref 105),(I 26 0),(I 0 0),(.ref 112),(I 28 0),(I 0 0),(.ref 119),(I 36 0),(I 0 0),(.ref 126),(I 38 0),(I 0 0),(.ref 133),(I 46 0),(I 0 0),(.ref 140),(I 60 0),(I 0 0),(.ref 147),(I 73 0),(I 0 0),(.ref 154),(I 78 0),(I 0 0),(.ref 161),(I 84 0),(I 0 0),(.ref 166),(I 92 0),(I 0 0),(.ref 173),(I 95 0),(I 0 0),(.ref 180),(I 99 0),(I 0 0),(.ref 187),(I 110 0),(I 0 0),(.ref 192),(I 115 0),(I 0 0),(.ref 197),(I 121 0),(I 0 0),(.ref 202),(I 130 0),(I 0 0),(.ref 207),(I 140 0),(I 0 0),(.ref 212),(I 147 0),(I 0 0),(.ref 217),(I 157 0),(I 0 0),(.ref 224),(I 162 0),(I 0 0),(.ref 231),(I 169 0),(I 0 0),(.ref 238),(I 173 0),(I 0 0),(.ref 243),(I 176 0),(I 0 0),(.ref 250),(I 179 0),(I 0 0),(.ref 255),(I 181 0),(I 0 0),(.ref 262),(I 190 0),(I 0 0),(.ref 269),(I 192 0),(I 0 0),(.ref 276),(I 203 0),(I 0 0),(.ref 281),(I 207 0),(I 0 0),(.ref 286),(I 218 0),(I 0 0),(.ref 293),(I 223 0),(I 0 0),(.ref 300),(I 225 0),(I 0 0),(.ref 307),(I 227 0),(I 0 0),(.ref 314),(I 231 0),(I 0 0),(.ref 321),(I 236 0),(I 0 0),(.ref 328),(I 238 0),(I 0 0),(.ref 335),(I 242 0),(I 0 0),(.ref 342),(I 246 0),(I 0 0),(.ref 349),(I 248 0),(I 0 0),(.ref 356),(I 259 0),(I 0 0),(.ref 363),(I 280 0),(I 0 0),(.ref 370),(I 287 0),(I 0 0),(.ref 377),(I 297 0),(I 0 0),(.ref 384),(I 315 0),(I 0 0),(.ref 389)]⟩) ⟨[]⟩
noncomputable abbrev l5:String:=PySem.W.SL.s6070975301684473832x10
noncomputable def o92:Params→Obj:=fun P=>Obj.mk (.type l0) none (.seq ⟨[(.type l5)]⟩ 0) ⟨[]⟩
noncomputable abbrev l6:String:=PySem.W.SL.s11030030927630378310x26
noncomputable abbrev l7:String:=PySem.W.SL.s10062305145149207511x16
noncomputable abbrev l8:String:=PySem.W.SL.s17162191345867700912x4
noncomputable def o94:Params→Obj:=fun P=>Obj.mk (.type l6) none (.fields ⟨[(.builtin l7),(.type l8)]⟩) ⟨[]⟩
noncomputable def q67:PySem.Str:=⟨Array.mk [95,95,109,111,100,117,108,101,95,95]⟩
noncomputable def q68:PySem.Str:=⟨Array.mk [101,118,101,110,104,117,98,46,101,114,114,111,114,115]⟩
noncomputable def q69:PySem.Str:=⟨Array.mk [95,95,113,117,97,108,110,97,109,101,95,95]⟩
noncomputable def q70:PySem.Str:=⟨Array.mk [95,95,102,105,114,115,116,108,105,110,101,110,111,95,95]⟩
noncomputable def q71:PySem.Str:=⟨Array.mk [95,95,115,116,97,116,105,99,95,97,116,116,114,105,98,117,116,101,115,95,95]⟩
noncomputable def o98:Params→Obj:=fun P=>Obj.mk (.type l3) none (.dict ⟨[(E P q67 196 (.str q68 187)),(E P q69 198 (.str q13 197)),(E P q70 200 (I 2 199)),(E P q71 201 (.ref 22))]⟩ 4) ⟨[]⟩
noncomputable def o104:Params→Obj:=fun P=>Obj.mk (.type l0) none (.seq ⟨[]⟩ 0) ⟨[]⟩
noncomputable def o105:Params→Obj:=fun P=>Obj.mk .none none (.fields ⟨[]⟩) ⟨[]⟩
noncomputable def o106:Params→Obj:=fun P=>Obj.mk (.type l1) none (.fields ⟨[(.str q13 191),(.str q13 192),(.str q1 193),(I 2 0),(I 0 0),(I 0 0),(I 0 0),(I 0 0),(.ref 18),(.bool Bool.false),(I 181 0),(.ref 19),.none,.none,.none,.none,(I 194 0),(I 2 0),(.str q1 195)]⟩) ⟨[]⟩
noncomputable def o107:Params→Obj:=fun P=>Obj.mk (.type l2) none .plain ⟨[(some (.ref 20)),(some (.ref 3)),(some (.ref 17)),none,(some (.str q68 187)),none,(some (.ref 0))]⟩
noncomputable def o108:Params→Obj:=fun P=>Obj.mk (.type l0) none (.seq ⟨[]⟩ 0) ⟨[]⟩
noncomputable def q72:PySem.Str:=⟨Array.mk [95,95,119,101,97,107,114,101,102,95,95]⟩
noncomputable def o109:Params→Obj:=fun P=>Obj.mk (.type l3) none (.dict ⟨[(E P q67 196 (.str q68 187)),(E P q70 200 (I 2 199)),(E P q71 201 (.ref 22)),(E P q72 203 (.ref 25)),(E P q5 204 .none)]⟩ 3) ⟨[]⟩
noncomputable abbrev l9:String:=PySem.W.SL.s5946037652744460706x9
noncomputable abbrev l10:String:=PySem.W.SL.s4278001404047624695x13
noncomputable abbrev l11:String:=PySem.W.SL.s2742458400755230247x6
noncomputable abbrev l12:String:=PySem.W.SL.s4209523147560561109x18
noncomputable def o111:Params→Obj:=fun P=>Obj.mk (.type l8) none (.cls (PySem.ClassData.mk q13 [(.type l5)] [(.ref 24),(.type l5),(.type l9),(.type l10),(.type l11)] 23 q13 Bool.true [] [(.ref 37),(.ref 49),(.ref 61),(.ref 73),(.ref 85),(.ref 97)] Bool.false none Bool.false)) ⟨[(some (.ref 15)),none,(some (.str q13 189)),(some (.str q13 197)),(some (.builtin l12)),(some (.bool Bool.true))]⟩
noncomputable abbrev l13:String:=PySem.W.SL.s14755015743595814543x17
noncomputable abbrev l14:String:=PySem.W.SL.s10220274742760427390x26
noncomputable def o116:Params→Obj:=fun P=>Obj.mk (.type l13) none (.fields ⟨[(.str q72 202),(.ref 24),(.builtin l14),.none]⟩) ⟨[]⟩
noncomputable abbrev l15:String:=PySem.W.SL.s4290257624100764138x5
noncomputable def o119:Params→Obj:=fun P=>Obj.mk (.type l15) none (.fields ⟨[(.ref 24),(.ref 24),(.ref 24)]⟩) ⟨[]⟩
noncomputable abbrev l16:String:=PySem.W.SL.s4860613602091757760x24
noncomputable def o121:Params→Obj:=fun P=>Obj.mk (.type l6) none (.fields ⟨[(.builtin l16),(.ref 24)]⟩) ⟨[]⟩
noncomputable def o123:Params→Obj:=fun P=>Obj.mk (.type l0) none (.seq ⟨[(.ref 24)]⟩ 0) ⟨[]⟩
noncomputable def o124:Params→Obj:=fun P=>Obj.mk (.type l6) none (.fields ⟨[(.builtin l7),(.type l8)]⟩) ⟨[]⟩
noncomputable def o125:Params→Obj:=fun P=>Obj.mk (.type l3) none (.dict ⟨[(E P q67 214 (.str q68 187)),(E P q69 216 (.str q14 215)),(E P q70 218 (I 4 217)),(E P q71 219 (.ref 35))]⟩ 4) ⟨[]⟩
noncomputable def o126:Params→Obj:=fun P=>Obj.mk (.type l0) none (.seq ⟨[]⟩ 0) ⟨[]⟩
noncomputable def o127:Params→Obj:=fun P=>Obj.mk .none none (.fields ⟨[]⟩) ⟨[]⟩
noncomputable def o128:Params→Obj:=fun P=>Obj.mk (.type l1) none (.fields ⟨[(.str q14 209),(.str q14 210),(.str q1 211),(I 4 0),(I 0 0),(I 0 0),(I 0 0),(I 0 0),(.ref 31),(.bool Bool.false),(I 181 0),(.ref 32),.none,.none,.none,.none,(I 212 0),(I 4 0),(.str q1 213)]⟩) ⟨[]⟩
noncomputable def o129:Params→Obj:=fun P=>Obj.mk (.type l2) none .plain ⟨[(some (.ref 33)),(some (.ref 3)),(some (.ref 30)),none,(some (.str q68 187)),none,(some (.ref 0))]⟩
noncomputable def o130:Params→Obj:=fun P=>Obj.mk (.type l0) none (.seq ⟨[]⟩ 0) ⟨[]⟩
noncomputable def o131:Params→Obj:=fun P=>Obj.mk (.type l3) none (.dict ⟨[(E P q67 214 (.str q68 187)),(E P q70 218 (I 4 217)),(E P q71 219 (.ref 35)),(E P q5 220 .none)]⟩ 2) ⟨[]⟩
noncomputable def o132:Params→Obj:=fun P=>Obj.mk (.type l8) none (.cls (PySem.ClassData.mk q14 [(.ref 24)] [(.ref 37),(.ref 24),(.type l5),(.type l9),(.type l10),(.type l11)] 36 q14 Bool.true [] [] Bool.false none Bool.false)) ⟨[(some (.ref 28)),none,(some (.str q14 207)),(some (.str q14 215)),(some (.builtin l12)),(some (.bool Bool.true))]⟩
noncomputable def o133:Params→Obj:=fun P=>Obj.mk (.type l15) none (.fields ⟨[(.ref 37),(.ref 37),(.ref 37)]⟩) ⟨[]⟩
noncomputable def o134:Params→Obj:=fun P=>Obj.mk (.type l6) none (.fields ⟨[(.builtin l16),(.ref 37)]⟩) ⟨[]⟩
noncomputable def o135:Params→Obj:=fun P=>Obj.mk (.type l0) none (.seq ⟨[(.ref 24)]⟩ 0) ⟨[]⟩
noncomputable def o136:Params→Obj:=fun P=>Obj.mk (.type l6) none (.fields ⟨[(.builtin l7),(.type l8)]⟩) ⟨[]⟩
noncomputable def o137:Params→Obj:=fun P=>Obj.mk (.type l3) none (.dict ⟨[(E P q67 230 (.str q68 187)),(E P q69 232 (.str q15 231)),(E P q70 234 (I 6 233)),(E P q71 235 (.ref 47))]⟩ 4) ⟨[]⟩
noncomputable def o138:Params→Obj:=fun P=>Obj.mk (.type l0) none (.seq ⟨[]⟩ 0) ⟨[]⟩
noncomputable def o139:Params→Obj:=fun P=>Obj.mk .none none (.fields ⟨[]⟩) ⟨[]⟩
noncomputable def o140:Params→Obj:=fun P=>Obj.mk (.type l1) none (.fields ⟨[(.str q15 225),(.str q15 226),(.str q1 227),(I 6 0),(I 0 0),(I 0 0),(I 0 0),(I 0 0),(.ref 43),(.bool Bool.false),(I 181 0),(.ref 44),.none,.none,.none,.none,(I 228 0),(I 6 0),(.str q1 229)]⟩) ⟨[]⟩
noncomputable def o141:Params→Obj:=fun P=>Obj.mk (.type l2) none .plain ⟨[(some (.ref 45)),(some (.ref 3)),(some (.ref 42)),none,(some (.str q68 187)),none,(some (.ref 0))]⟩
noncomputable def o142:Params→Obj:=fun P=>Obj.mk (.type l0) none (.seq ⟨[]⟩ 0) ⟨[]⟩
noncomputable def o143:Params→Obj:=fun P=>Obj.mk (.type l3) none (.dict ⟨[(E P q67 230 (.str q68 187)),(E P q70 234 (I 6 233)),(E P q71 235 (.ref 47)),(E P q5 236 .none)]⟩ 2) ⟨[]⟩
noncomputable def o144:Params→Obj:=fun P=>Obj.mk (.type l8) none (.cls (PySem.ClassData.mk q15 [(.ref 24)] [(.ref 49),(.ref 24),(.type l5),(.type l9),(.type l10),(.type l11)] 48 q15 Bool.true [] [] Bool.false none Bool.false)) ⟨[(some (.ref 40)),none,(some (.str q15 223)),(some (.str q15 231)),(some (.builtin l12)),(some (.bool Bool.true))]⟩
noncomputable def o145:Params→Obj:=fun P=>Obj.mk (.type l15) none (.fields ⟨[(.ref 49),(.ref 49),(.ref 49)]⟩) ⟨[]⟩
noncomputable def o146:Params→Obj:=fun P=>Obj.mk (.type l6) none (.fields ⟨[(.builtin l16),(.ref 49)]⟩) ⟨[]⟩
noncomputable def o147:Params→Obj:=fun P=>Obj.mk (.type l0) none (.seq ⟨[(.ref 24)]⟩ 0) ⟨[]⟩
noncomputable def o148:Params→Obj:=fun P=>Obj.mk (.type l6) none (.fields ⟨[(.builtin l7),(.type l8)]⟩) ⟨[]⟩
noncomputable def o149:Params→Obj:=fun P=>Obj.mk (.type l3) none (.dict ⟨[(E P q67 246 (.str q68 187)),(E P q69 248 (.str q16 247)),(E P q70 250 (I 8 249)),(E P q71 251 (.ref 59))]⟩ 4) ⟨[]⟩
noncomputable def o150:Params→Obj:=fun P=>Obj.mk (.type l0) none (.seq ⟨[]⟩ 0) ⟨[]⟩
noncomputable def o151:Params→Obj:=fun P=>Obj.mk .none none (.fields ⟨[]⟩) ⟨[]⟩
noncomputable def o152:Params→Obj:=fun P=>Obj.mk (.type l1) none (.fields ⟨[(.str q16 241),(.str q16 242),(.str q1 243),(I 8 0),(I 0 0),(I 0 0),(I 0 0),(I 0 0),(.ref 55),(.bool Bool.false),(I 181 0),(.ref 56),.none,.none,.none,.none,(I 244 0),(I 8 0),(.str q1 245)]⟩) ⟨[]⟩
noncomputable def o153:Params→Obj:=fun P=>Obj.mk (.type l2) none .plain ⟨[(some (.ref 57)),(some (.ref 3)),(some (.ref 54)),none,(some (.str q68 187)),none,(some (.ref 0))]⟩
noncomputable def o154:Params→Obj:=fun P=>Obj.mk (.type l0) none (.seq ⟨[]⟩ 0) ⟨[]⟩
noncomputable def o155:Params→Obj:=fun P=>Obj.mk (.type l3) none (.dict ⟨[(E P q67 246 (.str q68 187)),(E P q70 250 (I 8 249)),(E P q71 251 (.ref 59)),(E P q5 252 .none)]⟩ 2) ⟨[]⟩
noncomputable def o156:Params→Obj:=fun P=>Obj.mk (.type l8) none (.cls (PySem.ClassData.mk q16 [(.ref 24)] [(.ref 61),(.ref 24),(.type l5),(.type l9),(.type l10),(.type l11)] 60 q16 Bool.true [] [] Bool.false none Bool.false)) ⟨[(some (.ref 52)),none,(some (.str q16 239)),(some (.str q16 247)),(some (.builtin l12)),(some (.bool Bool.true))]⟩
noncomputable def o157:Params→Obj:=fun P=>Obj.mk (.type l15) none (.fields ⟨[(.ref 61),(.ref 61),(.ref 61)]⟩) ⟨[]⟩
noncomputable def o158:Params→Obj:=fun P=>Obj.mk (.type l6) none (.fields ⟨[(.builtin l16),(.ref 61)]⟩) ⟨[]⟩
noncomputable def o159:Params→Obj:=fun P=>Obj.mk (.type l0) none (.seq ⟨[(.ref 24)]⟩ 0) ⟨[]⟩
noncomputable def o160:Params→Obj:=fun P=>Obj.mk (.type l6) none (.fields ⟨[(.builtin l7),(.type l8)]⟩) ⟨[]⟩
noncomputable def o161:Params→Obj:=fun P=>Obj.mk (.type l3) none (.dict ⟨[(E P q67 262 (.str q68 187)),(E P q69 264 (.str q17 263)),(E P q70 266 (I 10 265)),(E P q71 267 (.ref 71))]⟩ 4) ⟨[]⟩
noncomputable def o162:Params→Obj:=fun P=>Obj.mk (.type l0) none (.seq ⟨[]⟩ 0) ⟨[]⟩
noncomputable def o163:Params→Obj:=fun P=>Obj.mk .none none (.fields ⟨[]⟩) ⟨[]⟩
noncomputable def o164:Params→Obj:=fun P=>Obj.mk (.type l1) none (.fields ⟨[(.str q17 257),(.str q17 258),(.str q1 259),(I 10 0),(I 0 0),(I 0 0),(I 0 0),(I 0 0),(.ref 67),(.bool Bool.false),(I 181 0),(.ref 68),.none,.none,.none,.none,(I 260 0),(I 10 0),(.str q1 261)]⟩) ⟨[]⟩
noncomputable def o165:Params→Obj:=fun P=>Obj.mk (.type l2) none .plain ⟨[(some (.ref 69)),(some (.ref 3)),(some (.ref 66)),none,(some (.str q68 187)),none,(some (.ref 0))]⟩
noncomputable def o166:Params→Obj:=fun P=>Obj.mk (.type l0) none (.seq ⟨[]⟩ 0) ⟨[]⟩
noncomputable def o167:Params→Obj:=fun P=>Obj.mk (.type l3) none (.dict ⟨[(E P q67 262 (.str q68 187)),(E P q70 266 (I 10 265)),(E P q71 267 (.ref 71)),(E P q5 268 .none)]⟩ 2) ⟨[]⟩
noncomputable def o168:Params→Obj:=fun P=>Obj.mk (.type l8) none (.cls (PySem.ClassData.mk q17 [(.ref 24)] [(.ref 73),(.ref 24),(.type l5),(.type l9),(.type l10),(.type l11)] 72 q17 Bool.true [] [] Bool.false none Bool.false)) ⟨[(some (.ref 64)),none,(some (.str q17 255)),(some (.str q17 263)),(some (.builtin l12)),(some (.bool Bool.true))]⟩
noncomputable def o169:Params→Obj:=fun P=>Obj.mk (.type l15) none (.fields ⟨[(.ref 73),(.ref 73),(.ref 73)]⟩) ⟨[]⟩
noncomputable def o170:Params→Obj:=fun P=>Obj.mk (.type l6) none (.fields ⟨[(.builtin l16),(.ref 73)]⟩) ⟨[]⟩
noncomputable def o171:Params→Obj:=fun P=>Obj.mk (.type l0) none (.seq ⟨[(.ref 24)]⟩ 0) ⟨[]⟩
noncomputable def o172:Params→Obj:=fun P=>Obj.mk (.type l6) none (.fields ⟨[(.builtin l7),(.type l8)]⟩) ⟨[]⟩
noncomputable def o173:Params→Obj:=fun P=>Obj.mk (.type l3) none (.dict ⟨[(E P q67 278 (.str q68 187)),(E P q69 280 (.str q18 279)),(E P q70 282 (I 12 281)),(E P q71 283 (.ref 83))]⟩ 4) ⟨[]⟩
noncomputable def o174:Params→Obj:=fun P=>Obj.mk (.type l0) none (.seq ⟨[]⟩ 0) ⟨[]⟩
noncomputable def o175:Params→Obj:=fun P=>Obj.mk .none none (.fields ⟨[]⟩) ⟨[]⟩
noncomputable def o176:Params→Obj:=fun P=>Obj.mk (.type l1) none (.fields ⟨[(.str q18 273),(.str q18 274),(.str q1 275),(I 12 0),(I 0 0),(I 0 0),(I 0 0),(I 0 0),(.ref 79),(.bool Bool.false),(I 181 0),(.ref 80),.none,.none,.none,.none,(I 276 0),(I 12 0),(.str q1 277)]⟩) ⟨[]⟩
noncomputable def o177:Params→Obj:=fun P=>Obj.mk (.type l2) none .plain ⟨[(some (.ref 81)),(some (.ref 3)),(some (.ref 78)),none,(some (.str q68 187)),none,(some (.ref 0))]⟩
noncomputable def o178:Params→Obj:=fun P=>Obj.mk (.type l0) none (.seq ⟨[]⟩ 0) ⟨[]⟩
noncomputable def o179:Params→Obj:=fun P=>Obj.mk (.type l3) none (.dict ⟨[(E P q67 278 (.str q68 187)),(E P q70 282 (I 12 281)),(E P q71 283 (.ref 83)),(E P q5 284 .none)]⟩ 2) ⟨[]⟩
noncomputable def o180:Params→Obj:=fun P=>Obj.mk (.type l8) none (.cls (PySem.ClassData.mk q18 [(.ref 24)] [(.ref 85),(.ref 24),(.type l5),(.type l9),(.type l10),(.type l11)] 84 q18 Bool.true [] [] Bool.false none Bool.false)) ⟨[(some (.ref 76)),none,(some (.str q18 271)),(some (.str q18 279)),(some (.builtin l12)),(some (.bool Bool.true))]⟩
noncomputable def o181:Params→Obj:=fun P=>Obj.mk (.type l15) none (.fields ⟨[(.ref 85),(.ref 85),(.ref 85)]⟩) ⟨[]⟩
noncomputable def o182:Params→Obj:=fun P=>Obj.mk (.type l6) none (.fields ⟨[(.builtin l16),(.ref 85)]⟩) ⟨[]⟩
noncomputable def o183:Params→Obj:=fun P=>Obj.mk (.type l0) none (.seq ⟨[(.ref 24)]⟩ 0) ⟨[]⟩
noncomputable def o184:Params→Obj:=fun P=>Obj.mk (.type l6) none (.fields ⟨[(.builtin l7),(.type l8)]⟩) ⟨[]⟩
noncomputable def o185:Params→Obj:=fun P=>Obj.mk (.type l3) none (.dict ⟨[(E P q67 294 (.str q68 187)),(E P q69 296 (.str q19 295)),(E P q70 298 (I 14 297)),(E P q71 299 (.ref 95))]⟩ 4) ⟨[]⟩
noncomputable def o186:Params→Obj:=fun P=>Obj.mk (.type l0) none (.seq ⟨[]⟩ 0) ⟨[]⟩
noncomputable def o187:Params→Obj:=fun P=>Obj.mk .none none (.fields ⟨[]⟩) ⟨[]⟩
noncomputable def o188:Params→Obj:=fun P=>Obj.mk (.type l1) none (.fields ⟨[(.str q19 289),(.str q19 290),(.str q1 291),(I 14 0),(I 0 0),(I 0 0),(I 0 0),(I 0 0),(.ref 91),(.bool Bool.false),(I 181 0),(.ref 92),.none,.none,.none,.none,(I 292 0),(I 14 0),(.str q1 293)]⟩) ⟨[]⟩
noncomputable def o189:Params→Obj:=fun P=>Obj.mk (.type l2) none .plain ⟨[(some (.ref 93)),(some (.ref 3)),(some (.ref 90)),none,(some (.str q68 187)),none,(some (.ref 0))]⟩
noncomputable def o190:Params→Obj:=fun P=>Obj.mk (.type l0) none (.seq ⟨[]⟩ 0) ⟨[]⟩
noncomputable def o191:Params→Obj:=fun P=>Obj.mk (.type l3) none (.dict ⟨[(E P q67 294 (.str q68 187)),(E P q70 298 (I 14 297)),(E P q71 299 (.ref 95)),(E P q5 300 .none)]⟩ 2) ⟨[]⟩
noncomputable def o192:Params→Obj:=fun P=>Obj.mk (.type l8) none (.cls (PySem.ClassData.mk q19 [(.ref 24)] [(.ref 97),(.ref 24),(.type l5),(.type l9),(.type l10),(.type l11)] 96 q19 Bool.true [] [] Bool.false none Bool.false)) ⟨[(some (.ref 88)),none,(some (.str q19 287)),(some (.str q19 295)),(some (.builtin l12)),(some (.bool Bool.true))]⟩
noncomputable def o193:Params→Obj:=fun P=>Obj.mk (.type l15) none (.fields ⟨[(.ref 97),(.ref 97),(.ref 97)]⟩) ⟨[]⟩
noncomputable def o194:Params→Obj:=fun P=>Obj.mk (.type l6) none (.fields ⟨[(.builtin l16),(.ref 97)]⟩) ⟨[]⟩
noncomputable def o195:Params→Obj:=fun P=>Obj.mk (.type l0) none (.seq ⟨[]⟩ 0) ⟨[]⟩
noncomputable def o196:Params→Obj:=fun P=>Obj.mk .none none (.fields ⟨[]⟩) ⟨[]⟩
noncomputable def q73:PySem.Str:=⟨Array.mk [111,110,101]⟩
noncomputable def q74:PySem.Str:=⟨Array.mk [111,116,104,101,114]⟩
noncomputable def q75:PySem.Str:=⟨Array.mk [103,114,101,97,116]⟩
noncomputable def q76:PySem.Str:=⟨Array.mk [115,109,97,108,108]⟩
noncomputable def q77:PySem.Str:=⟨Array.mk [108,101,102,116]⟩
noncomputable def o197:Params→Obj:=fun P=>Obj.mk (.type l0) none (.seq ⟨[(.str q73 310),(.str q74 311),(.str q75 312),(.str q76 313),(.str q77 314)]⟩ 0) ⟨[]⟩
noncomputable def o203:Params→Obj:=fun P=>Obj.mk (.type l0) none (.seq ⟨[]⟩ 0) ⟨[]⟩
noncomputable def o204:Params→Obj:=fun P=>Obj.mk .none none (.func { fnOf q21 q21 (L2.zF (tp 10)) (L2.zE (tp 10)) (L2.zB (tp 10)) .none .none .none .none none .none .none with globals:=0,builtins:=0 }) ⟨[]⟩
noncomputable def o205:Params→Obj:=fun P=>Obj.mk (.type l1) none (.fields ⟨[(.str q21 307),(.str q21 308),(.str q1 309),(I 18 0),(I 2 0),(I 0 0),(I 0 0),(I 3 0),(.ref 100),(.bool Bool.true),(I 181 0),(.ref 101),.none,(.ref 102),(.ref 103),(.ref 104),(I 315 0),(I 18 0),(.str q1 316)]⟩) ⟨[]⟩
noncomputable abbrev l17:String:=PySem.W.SL.s7174869446012820540x8
noncomputable def q78:PySem.Str:=⟨Array.mk [101,118,101,110,104,117,98,46,119,104,111,108,101,115]⟩
noncomputable def o206:Params→Obj:=fun P=>Obj.mk (.type l17) none (.func (fnOf q21 q21 (L2.zF (tp 10)) (L2.zE (tp 10)) (L2.zB (tp 10)) .none .none .none (.str q78 303) none (.ref 105) .none)) ⟨[]⟩
noncomputable def o209:Params→Obj:=fun P=>Obj.mk (.type l0) none (.seq ⟨[]⟩ 0) ⟨[]⟩
noncomputable def o210:Params→Obj:=fun P=>Obj.mk .none none (.fields ⟨[]⟩) ⟨[]⟩
noncomputable def o211:Params→Obj:=fun P=>Obj.mk (.type l0) none (.seq ⟨[(.str q73 321),(.str q74 322)]⟩ 0) ⟨[]⟩
noncomputable def o212:Params→Obj:=fun P=>Obj.mk (.type l0) none (.seq ⟨[]⟩ 0) ⟨[]⟩
noncomputable def o213:Params→Obj:=fun P=>Obj.mk .none none (.func { fnOf q22 q22 (L2.zF (tp 11)) (L2.zE (tp 11)) (L2.zB (tp 11)) .none .none .none .none none .none .none with globals:=0,builtins:=0 }) ⟨[]⟩
noncomputable def o214:Params→Obj:=fun P=>Obj.mk (.type l1) none (.fields ⟨[(.str q22 318),(.str q22 319),(.str q1 320),(I 26 0),(I 2 0),(I 0 0),(I 0 0),(I 3 0),(.ref 107),(.bool Bool.true),(I 181 0),(.ref 108),.none,(.ref 109),(.ref 110),(.ref 111),(I 323 0),(I 26 0),(.str q1 324)]⟩) ⟨[]⟩
noncomputable def o215:Params→Obj:=fun P=>Obj.mk (.type l17) none (.func (fnOf q22 q22 (L2.zF (tp 11)) (L2.zE (tp 11)) (L2.zB (tp 11)) .none .none .none (.str q78 303) none (.ref 112) .none)) ⟨[]⟩
noncomputable def o216:Params→Obj:=fun P=>Obj.mk (.type l0) none (.seq ⟨[]⟩ 0) ⟨[]⟩
noncomputable def o217:Params→Obj:=fun P=>Obj.mk .none none (.fields ⟨[]⟩) ⟨[]⟩
noncomputable def q79:PySem.Str:=⟨Array.mk [98,105,116,115]⟩
noncomputable def q80:PySem.Str:=⟨Array.mk [114,101,115,116,115]⟩
noncomputable def q81:PySem.Str:=⟨Array.mk [99,111,117,110,116,115]⟩
noncomputable def o218:Params→Obj:=fun P=>Obj.mk (.type l0) none (.seq ⟨[(.str q73 329),(.str q74 330),(.str q79 331),(.str q80 332),(.str q81 333),(.str q54 334)]⟩ 0) ⟨[]⟩
noncomputable def o222:Params→Obj:=fun P=>Obj.mk (.type l0) none (.seq ⟨[]⟩ 0) ⟨[]⟩
noncomputable def o223:Params→Obj:=fun P=>Obj.mk .none none (.func { fnOf q23 q23 (L2.zF (tp 12)) (L2.zE (tp 12)) (L2.zB (tp 12)) .none .none .none .none none .none .none with globals:=0,builtins:=0 }) ⟨[]⟩
noncomputable def o224:Params→Obj:=fun P=>Obj.mk (.type l1) none (.fields ⟨[(.str q23 326),(.str q23 327),(.str q1 328),(I 28 0),(I 3 0),(I 0 0),(I 0 0),(I 3 0),(.ref 114),(.bool Bool.true),(I 181 0),(.ref 115),.none,(.ref 116),(.ref 117),(.ref 118),(I 335 0),(I 28 0),(.str q1 336)]⟩) ⟨[]⟩
noncomputable def o225:Params→Obj:=fun P=>Obj.mk (.type l17) none (.func (fnOf q23 q23 (L2.zF (tp 12)) (L2.zE (tp 12)) (L2.zB (tp 12)) .none .none .none (.str q78 303) none (.ref 119) .none)) ⟨[]⟩
noncomputable def o226:Params→Obj:=fun P=>Obj.mk (.type l0) none (.seq ⟨[]⟩ 0) ⟨[]⟩
noncomputable def o227:Params→Obj:=fun P=>Obj.mk .none none (.fields ⟨[]⟩) ⟨[]⟩
noncomputable def q82:PySem.Str:=⟨Array.mk [112,97,105,114]⟩
noncomputable def o228:Params→Obj:=fun P=>Obj.mk (.type l0) none (.seq ⟨[(.str q82 341),(.str q54 342)]⟩ 0) ⟨[]⟩
noncomputable def o230:Params→Obj:=fun P=>Obj.mk (.type l0) none (.seq ⟨[]⟩ 0) ⟨[]⟩
noncomputable def o231:Params→Obj:=fun P=>Obj.mk .none none (.func { fnOf q24 q24 (L2.zF (tp 13)) (L2.zE (tp 13)) (L2.zB (tp 13)) .none .none .none .none none .none .none with globals:=0,builtins:=0 }) ⟨[]⟩
noncomputable def o232:Params→Obj:=fun P=>Obj.mk (.type l1) none (.fields ⟨[(.str q24 338),(.str q24 339),(.str q1 340),(I 36 0),(I 2 0),(I 0 0),(I 0 0),(I 3 0),(.ref 121),(.bool Bool.true),(I 181 0),(.ref 122),.none,(.ref 123),(.ref 124),(.ref 125),(I 343 0),(I 36 0),(.str q1 344)]⟩) ⟨[]⟩
noncomputable def o233:Params→Obj:=fun P=>Obj.mk (.type l17) none (.func (fnOf q24 q24 (L2.zF (tp 13)) (L2.zE (tp 13)) (L2.zB (tp 13)) .none .none .none (.str q78 303) none (.ref 126) .none)) ⟨[]⟩
noncomputable def o234:Params→Obj:=fun P=>Obj.mk (.type l0) none (.seq ⟨[]⟩ 0) ⟨[]⟩
noncomputable def o235:Params→Obj:=fun P=>Obj.mk .none none (.fields ⟨[]⟩) ⟨[]⟩
noncomputable def q83:PySem.Str:=⟨Array.mk [108,101,110,103,116,104]⟩
noncomputable def q84:PySem.Str:=⟨Array.mk [98,101,104,105,110,100]⟩
noncomputable def o236:Params→Obj:=fun P=>Obj.mk (.type l0) none (.seq ⟨[(.str q80 349),(.str q79 350),(.str q83 351),(.str q84 352),(.str q54 353)]⟩ 0) ⟨[]⟩
noncomputable def o239:Params→Obj:=fun P=>Obj.mk (.type l0) none (.seq ⟨[]⟩ 0) ⟨[]⟩
noncomputable def o240:Params→Obj:=fun P=>Obj.mk .none none (.func { fnOf q25 q25 (L2.zF (tp 14)) (L2.zE (tp 14)) (L2.zB (tp 14)) .none .none .none .none none .none .none with globals:=0,builtins:=0 }) ⟨[]⟩
noncomputable def o241:Params→Obj:=fun P=>Obj.mk (.type l1) none (.fields ⟨[(.str q25 346),(.str q25 347),(.str q1 348),(I 38 0),(I 2 0),(I 0 0),(I 0 0),(I 3 0),(.ref 128),(.bool Bool.true),(I 181 0),(.ref 129),.none,(.ref 130),(.ref 131),(.ref 132),(I 354 0),(I 38 0),(.str q1 355)]⟩) ⟨[]⟩
noncomputable def o242:Params→Obj:=fun P=>Obj.mk (.type l17) none (.func (fnOf q25 q25 (L2.zF (tp 14)) (L2.zE (tp 14)) (L2.zB (tp 14)) .none .none .none (.str q78 303) none (.ref 133) .none)) ⟨[]⟩
noncomputable def o243:Params→Obj:=fun P=>Obj.mk (.type l0) none (.seq ⟨[]⟩ 0) ⟨[]⟩
noncomputable def o244:Params→Obj:=fun P=>Obj.mk .none none (.fields ⟨[]⟩) ⟨[]⟩
noncomputable def q85:PySem.Str:=⟨Array.mk [108,97,116,101,114,95,114,101,115,116]⟩
noncomputable def q86:PySem.Str:=⟨Array.mk [109,97,110,121]⟩
noncomputable def q87:PySem.Str:=⟨Array.mk [110,101,119,95,114,101,115,116]⟩
noncomputable def q88:PySem.Str:=⟨Array.mk [102,117,114,116,104,101,114]⟩
noncomputable def q89:PySem.Str:=⟨Array.mk [100,111,117,98,116]⟩
noncomputable def o245:Params→Obj:=fun P=>Obj.mk (.type l0) none (.seq ⟨[(.str q49 360),(.str q85 361),(.str q54 362),(.str q86 363),(.str q87 364),(.str q88 365),(.str q89 366)]⟩ 0) ⟨[]⟩
noncomputable def o251:Params→Obj:=fun P=>Obj.mk (.type l0) none (.seq ⟨[]⟩ 0) ⟨[]⟩
noncomputable def o252:Params→Obj:=fun P=>Obj.mk .none none (.func { fnOf q26 q26 (L2.zF (tp 15)) (L2.zE (tp 15)) (L2.zB (tp 15)) .none .none .none .none none .none .none with globals:=0,builtins:=0 }) ⟨[]⟩
noncomputable def o253:Params→Obj:=fun P=>Obj.mk (.type l1) none (.fields ⟨[(.str q26 357),(.str q26 358),(.str q1 359),(I 46 0),(I 2 0),(I 0 0),(I 0 0),(I 3 0),(.ref 135),(.bool Bool.true),(I 181 0),(.ref 136),.none,(.ref 137),(.ref 138),(.ref 139),(I 367 0),(I 46 0),(.str q1 368)]⟩) ⟨[]⟩
noncomputable def o254:Params→Obj:=fun P=>Obj.mk (.type l17) none (.func (fnOf q26 q26 (L2.zF (tp 15)) (L2.zE (tp 15)) (L2.zB (tp 15)) .none .none .none (.str q78 303) none (.ref 140) .none)) ⟨[]⟩
noncomputable def o255:Params→Obj:=fun P=>Obj.mk (.type l0) none (.seq ⟨[]⟩ 0) ⟨[]⟩
noncomputable def o256:Params→Obj:=fun P=>Obj.mk .none none (.fields ⟨[]⟩) ⟨[]⟩
noncomputable def q90:PySem.Str:=⟨Array.mk [110]⟩
noncomputable def q91:PySem.Str:=⟨Array.mk [102,111,117,110,100]⟩
noncomputable def q92:PySem.Str:=⟨Array.mk [112]⟩
noncomputable def q93:PySem.Str:=⟨Array.mk [113]⟩
noncomputable def o257:Params→Obj:=fun P=>Obj.mk (.type l0) none (.seq ⟨[(.str q90 375),(.str q91 376),(.str q77 377),(.str q92 378),(.str q93 379)]⟩ 0) ⟨[]⟩
noncomputable def o262:Params→Obj:=fun P=>Obj.mk (.type l0) none (.seq ⟨[]⟩ 0) ⟨[]⟩
noncomputable def o263:Params→Obj:=fun P=>Obj.mk .none none (.func { fnOf q27 q27 (L2.zF (tp 17)) (L2.zE (tp 17)) (L2.zB (tp 17)) .none .none .none .none none .none .none with globals:=0,builtins:=0 }) ⟨[]⟩
noncomputable def o264:Params→Obj:=fun P=>Obj.mk (.type l1) none (.fields ⟨[(.str q27 372),(.str q27 373),(.str q1 374),(I 60 0),(I 1 0),(I 0 0),(I 0 0),(I 3 0),(.ref 142),(.bool Bool.true),(I 181 0),(.ref 143),.none,(.ref 144),(.ref 145),(.ref 146),(I 380 0),(I 60 0),(.str q1 381)]⟩) ⟨[]⟩
noncomputable def q94:PySem.Str:=⟨Array.mk [101,118,101,110,104,117,98,46,112,114,105,109,101,115]⟩
noncomputable def o265:Params→Obj:=fun P=>Obj.mk (.type l17) none (.func (fnOf q27 q27 (L2.zF (tp 17)) (L2.zE (tp 17)) (L2.zB (tp 17)) .none .none .none (.str q94 370) none (.ref 147) .none)) ⟨[]⟩
noncomputable def o267:Params→Obj:=fun P=>Obj.mk (.type l0) none (.seq ⟨[]⟩ 0) ⟨[]⟩
noncomputable def o268:Params→Obj:=fun P=>Obj.mk .none none (.fields ⟨[]⟩) ⟨[]⟩
noncomputable def o269:Params→Obj:=fun P=>Obj.mk (.type l0) none (.seq ⟨[(.str q90 386),(.str q92 387),(.str q93 388)]⟩ 0) ⟨[]⟩
noncomputable def o270:Params→Obj:=fun P=>Obj.mk (.type l0) none (.seq ⟨[]⟩ 0) ⟨[]⟩
noncomputable def o271:Params→Obj:=fun P=>Obj.mk .none none (.func { fnOf q28 q28 (L2.zF (tp 18)) (L2.zE (tp 18)) (L2.zB (tp 18)) .none .none .none .none none .none .none with globals:=0,builtins:=0 }) ⟨[]⟩
noncomputable def o272:Params→Obj:=fun P=>Obj.mk (.type l1) none (.fields ⟨[(.str q28 383),(.str q28 384),(.str q1 385),(I 73 0),(I 2 0),(I 0 0),(I 0 0),(I 3 0),(.ref 149),(.bool Bool.true),(I 181 0),(.ref 150),.none,(.ref 151),(.ref 152),(.ref 153),(I 389 0),(I 73 0),(.str q1 390)]⟩) ⟨[]⟩
noncomputable def o273:Params→Obj:=fun P=>Obj.mk (.type l17) none (.func (fnOf q28 q28 (L2.zF (tp 18)) (L2.zE (tp 18)) (L2.zB (tp 18)) .none .none .none (.str q94 370) none (.ref 154) .none)) ⟨[]⟩
noncomputable def o274:Params→Obj:=fun P=>Obj.mk (.type l0) none (.seq ⟨[]⟩ 0) ⟨[]⟩
noncomputable def o275:Params→Obj:=fun P=>Obj.mk .none none (.fields ⟨[]⟩) ⟨[]⟩
noncomputable def q95:PySem.Str:=⟨Array.mk [115,116,101,112]⟩
noncomputable def q96:PySem.Str:=⟨Array.mk [116,111,108,100]⟩
noncomputable def o276:Params→Obj:=fun P=>Obj.mk (.type l0) none (.seq ⟨[(.str q95 395),(.str q90 396),(.str q96 397)]⟩ 0) ⟨[]⟩
noncomputable def o279:Params→Obj:=fun P=>Obj.mk (.type l0) none (.seq ⟨[]⟩ 0) ⟨[]⟩
noncomputable def o280:Params→Obj:=fun P=>Obj.mk .none none (.func { fnOf q29 q29 (L2.zF (tp 19)) (L2.zE (tp 19)) (L2.zB (tp 19)) .none .none .none .none none .none .none with globals:=0,builtins:=0 }) ⟨[]⟩
noncomputable def o281:Params→Obj:=fun P=>Obj.mk (.type l1) none (.fields ⟨[(.str q29 392),(.str q29 393),(.str q1 394),(I 78 0),(I 2 0),(I 0 0),(I 0 0),(I 3 0),(.ref 156),(.bool Bool.true),(I 181 0),(.ref 157),.none,(.ref 158),(.ref 159),(.ref 160),(I 398 0),(I 78 0),(.str q1 399)]⟩) ⟨[]⟩
noncomputable def o282:Params→Obj:=fun P=>Obj.mk (.type l17) none (.func (fnOf q29 q29 (L2.zF (tp 19)) (L2.zE (tp 19)) (L2.zB (tp 19)) .none .none .none (.str q94 370) none (.ref 161) .none)) ⟨[]⟩
noncomputable def o283:Params→Obj:=fun P=>Obj.mk (.type l0) none (.seq ⟨[]⟩ 0) ⟨[]⟩
noncomputable def o284:Params→Obj:=fun P=>Obj.mk .none none (.fields ⟨[]⟩) ⟨[]⟩
noncomputable def o285:Params→Obj:=fun P=>Obj.mk .none none (.func { fnOf q30 q30 (L2.zF (tp 21)) (L2.zE (tp 21)) (L2.zB (tp 21)) .none .none .none .none none .none .none with globals:=0,builtins:=0 }) ⟨[]⟩
noncomputable def o286:Params→Obj:=fun P=>Obj.mk (.type l1) none (.fields ⟨[(.str q30 403),(.str q30 404),(.str q1 405),(I 84 0),(I 2 0),(I 0 0),(I 0 0),(I 3 0),(.ref 163),(.bool Bool.true),(I 181 0),(.ref 164),.none,.none,.none,(.ref 165),(I 406 0),(I 84 0),(.str q1 407)]⟩) ⟨[]⟩
noncomputable def q97:PySem.Str:=⟨Array.mk [101,118,101,110,104,117,98,46,114,105,110,103,115]⟩
noncomputable def o287:Params→Obj:=fun P=>Obj.mk (.type l17) none (.func (fnOf q30 q30 (L2.zF (tp 21)) (L2.zE (tp 21)) (L2.zB (tp 21)) .none .none .none (.str q97 401) none (.ref 166) .none)) ⟨[]⟩
noncomputable def o289:Params→Obj:=fun P=>Obj.mk (.type l0) none (.seq ⟨[]⟩ 0) ⟨[]⟩
noncomputable def o290:Params→Obj:=fun P=>Obj.mk .none none (.fields ⟨[]⟩) ⟨[]⟩
noncomputable def q98:PySem.Str:=⟨Array.mk [108,111,97,100]⟩
noncomputable def q99:PySem.Str:=⟨Array.mk [104,111,108,101]⟩
noncomputable def q100:PySem.Str:=⟨Array.mk [112,108,97,99,101]⟩
noncomputable def o291:Params→Obj:=fun P=>Obj.mk (.type l0) none (.seq ⟨[(.str q98 412),(.str q92 413),(.str q99 414),(.str q86 415),(.str q100 416)]⟩ 0) ⟨[]⟩
noncomputable def o295:Params→Obj:=fun P=>Obj.mk (.type l0) none (.seq ⟨[]⟩ 0) ⟨[]⟩
noncomputable def o296:Params→Obj:=fun P=>Obj.mk .none none (.func { fnOf q31 q31 (L2.zF (tp 22)) (L2.zE (tp 22)) (L2.zB (tp 22)) .none .none .none .none none .none .none with globals:=0,builtins:=0 }) ⟨[]⟩
noncomputable def o297:Params→Obj:=fun P=>Obj.mk (.type l1) none (.fields ⟨[(.str q31 409),(.str q31 410),(.str q1 411),(I 92 0),(I 4 0),(I 0 0),(I 0 0),(I 3 0),(.ref 168),(.bool Bool.true),(I 181 0),(.ref 169),.none,(.ref 170),(.ref 171),(.ref 172),(I 417 0),(I 92 0),(.str q1 418)]⟩) ⟨[]⟩
noncomputable def o298:Params→Obj:=fun P=>Obj.mk (.type l17) none (.func (fnOf q31 q31 (L2.zF (tp 22)) (L2.zE (tp 22)) (L2.zB (tp 22)) .none .none .none (.str q97 401) none (.ref 173) .none)) ⟨[]⟩
noncomputable def o299:Params→Obj:=fun P=>Obj.mk (.type l0) none (.seq ⟨[]⟩ 0) ⟨[]⟩
noncomputable def o300:Params→Obj:=fun P=>Obj.mk .none none (.fields ⟨[]⟩) ⟨[]⟩
noncomputable def o301:Params→Obj:=fun P=>Obj.mk (.type l0) none (.seq ⟨[(.str q90 423),(.str q92 424),(.str q99 425),(.str q95 426)]⟩ 0) ⟨[]⟩
noncomputable def o302:Params→Obj:=fun P=>Obj.mk (.type l0) none (.seq ⟨[]⟩ 0) ⟨[]⟩
noncomputable def o303:Params→Obj:=fun P=>Obj.mk .none none (.func { fnOf q32 q32 (L2.zF (tp 23)) (L2.zE (tp 23)) (L2.zB (tp 23)) .none .none .none .none none .none .none with globals:=0,builtins:=0 }) ⟨[]⟩
noncomputable def o304:Params→Obj:=fun P=>Obj.mk (.type l1) none (.fields ⟨[(.str q32 420),(.str q32 421),(.str q1 422),(I 95 0),(I 3 0),(I 0 0),(I 0 0),(I 3 0),(.ref 175),(.bool Bool.true),(I 181 0),(.ref 176),.none,(.ref 177),(.ref 178),(.ref 179),(I 427 0),(I 95 0),(.str q1 428)]⟩) ⟨[]⟩
noncomputable def o305:Params→Obj:=fun P=>Obj.mk (.type l17) none (.func (fnOf q32 q32 (L2.zF (tp 23)) (L2.zE (tp 23)) (L2.zB (tp 23)) .none .none .none (.str q97 401) none (.ref 180) .none)) ⟨[]⟩
noncomputable def o306:Params→Obj:=fun P=>Obj.mk (.type l0) none (.seq ⟨[]⟩ 0) ⟨[]⟩
noncomputable def o307:Params→Obj:=fun P=>Obj.mk .none none (.fields ⟨[]⟩) ⟨[]⟩
noncomputable def q101:PySem.Str:=⟨Array.mk [112,114,105,109,101,115]⟩
noncomputable def q102:PySem.Str:=⟨Array.mk [99,111,117,110,116]⟩
noncomputable def o308:Params→Obj:=fun P=>Obj.mk (.type l0) none (.seq ⟨[(.str q90 435),(.str q86 436),(.str q101 437),(.str q76 438),(.str q75 439),(.str q102 440),(.str q77 441)]⟩ 0) ⟨[]⟩
noncomputable def o311:Params→Obj:=fun P=>Obj.mk (.type l0) none (.seq ⟨[]⟩ 0) ⟨[]⟩
noncomputable def o312:Params→Obj:=fun P=>Obj.mk .none none (.func { fnOf q33 q33 (L2.zF (tp 25)) (L2.zE (tp 25)) (L2.zB (tp 25)) .none .none .none .none none .none .none with globals:=0,builtins:=0 }) ⟨[]⟩
noncomputable def o313:Params→Obj:=fun P=>Obj.mk (.type l1) none (.fields ⟨[(.str q33 432),(.str q33 433),(.str q1 434),(I 99 0),(I 2 0),(I 0 0),(I 0 0),(I 3 0),(.ref 182),(.bool Bool.true),(I 181 0),(.ref 183),.none,(.ref 184),(.ref 185),(.ref 186),(I 442 0),(I 99 0),(.str q1 443)]⟩) ⟨[]⟩
noncomputable def q103:PySem.Str:=⟨Array.mk [101,118,101,110,104,117,98,46,115,116,97,99,107,115]⟩
noncomputable def o314:Params→Obj:=fun P=>Obj.mk (.type l17) none (.func (fnOf q33 q33 (L2.zF (tp 25)) (L2.zE (tp 25)) (L2.zB (tp 25)) .none .none .none (.str q103 430) none (.ref 187) .none)) ⟨[]⟩
noncomputable def o316:Params→Obj:=fun P=>Obj.mk (.type l0) none (.seq ⟨[]⟩ 0) ⟨[]⟩
noncomputable def o317:Params→Obj:=fun P=>Obj.mk .none none (.fields ⟨[]⟩) ⟨[]⟩
noncomputable def o318:Params→Obj:=fun P=>Obj.mk .none none (.func { fnOf q34 q34 (L2.zF (tp 26)) (L2.zE (tp 26)) (L2.zB (tp 26)) .none .none .none .none none .none .none with globals:=0,builtins:=0 }) ⟨[]⟩
noncomputable def o319:Params→Obj:=fun P=>Obj.mk (.type l1) none (.fields ⟨[(.str q34 445),(.str q34 446),(.str q1 447),(I 110 0),(I 1 0),(I 0 0),(I 0 0),(I 3 0),(.ref 189),(.bool Bool.true),(I 181 0),(.ref 190),.none,.none,.none,(.ref 191),(I 448 0),(I 110 0),(.str q1 449)]⟩) ⟨[]⟩
noncomputable def o320:Params→Obj:=fun P=>Obj.mk (.type l17) none (.func (fnOf q34 q34 (L2.zF (tp 26)) (L2.zE (tp 26)) (L2.zB (tp 26)) .none .none .none (.str q103 430) none (.ref 192) .none)) ⟨[]⟩
noncomputable def o321:Params→Obj:=fun P=>Obj.mk (.type l0) none (.seq ⟨[]⟩ 0) ⟨[]⟩
noncomputable def o322:Params→Obj:=fun P=>Obj.mk .none none (.fields ⟨[]⟩) ⟨[]⟩
noncomputable def o323:Params→Obj:=fun P=>Obj.mk .none none (.func { fnOf q35 q35 (L2.zF (tp 27)) (L2.zE (tp 27)) (L2.zB (tp 27)) .none .none .none .none none .none .none with globals:=0,builtins:=0 }) ⟨[]⟩
noncomputable def o324:Params→Obj:=fun P=>Obj.mk (.type l1) none (.fields ⟨[(.str q35 451),(.str q35 452),(.str q1 453),(I 115 0),(I 2 0),(I 0 0),(I 0 0),(I 3 0),(.ref 194),(.bool Bool.true),(I 181 0),(.ref 195),.none,.none,.none,(.ref 196),(I 454 0),(I 115 0),(.str q1 455)]⟩) ⟨[]⟩
noncomputable def o325:Params→Obj:=fun P=>Obj.mk (.type l17) none (.func (fnOf q35 q35 (L2.zF (tp 27)) (L2.zE (tp 27)) (L2.zB (tp 27)) .none .none .none (.str q103 430) none (.ref 197) .none)) ⟨[]⟩
noncomputable def o326:Params→Obj:=fun P=>Obj.mk (.type l0) none (.seq ⟨[]⟩ 0) ⟨[]⟩
noncomputable def o327:Params→Obj:=fun P=>Obj.mk .none none (.fields ⟨[]⟩) ⟨[]⟩
noncomputable def o328:Params→Obj:=fun P=>Obj.mk .none none (.func { fnOf q36 q36 (L2.zF (tp 28)) (L2.zE (tp 28)) (L2.zB (tp 28)) .none .none .none .none none .none .none with globals:=0,builtins:=0 }) ⟨[]⟩
noncomputable def o329:Params→Obj:=fun P=>Obj.mk (.type l1) none (.fields ⟨[(.str q36 457),(.str q36 458),(.str q1 459),(I 121 0),(I 1 0),(I 0 0),(I 0 0),(I 3 0),(.ref 199),(.bool Bool.true),(I 181 0),(.ref 200),.none,.none,.none,(.ref 201),(I 460 0),(I 121 0),(.str q1 461)]⟩) ⟨[]⟩
noncomputable def o330:Params→Obj:=fun P=>Obj.mk (.type l17) none (.func (fnOf q36 q36 (L2.zF (tp 28)) (L2.zE (tp 28)) (L2.zB (tp 28)) .none .none .none (.str q103 430) none (.ref 202) .none)) ⟨[]⟩
noncomputable def o331:Params→Obj:=fun P=>Obj.mk (.type l0) none (.seq ⟨[]⟩ 0) ⟨[]⟩
noncomputable def o332:Params→Obj:=fun P=>Obj.mk .none none (.fields ⟨[]⟩) ⟨[]⟩
noncomputable def o333:Params→Obj:=fun P=>Obj.mk .none none (.func { fnOf q37 q37 (L2.zF (tp 29)) (L2.zE (tp 29)) (L2.zB (tp 29)) .none .none .none .none none .none .none with globals:=0,builtins:=0 }) ⟨[]⟩
noncomputable def o334:Params→Obj:=fun P=>Obj.mk (.type l1) none (.fields ⟨[(.str q37 463),(.str q37 464),(.str q1 465),(I 130 0),(I 2 0),(I 0 0),(I 0 0),(I 3 0),(.ref 204),(.bool Bool.true),(I 181 0),(.ref 205),.none,.none,.none,(.ref 206),(I 466 0),(I 130 0),(.str q1 467)]⟩) ⟨[]⟩
noncomputable def o335:Params→Obj:=fun P=>Obj.mk (.type l17) none (.func (fnOf q37 q37 (L2.zF (tp 29)) (L2.zE (tp 29)) (L2.zB (tp 29)) .none .none .none (.str q103 430) none (.ref 207) .none)) ⟨[]⟩
noncomputable def o336:Params→Obj:=fun P=>Obj.mk (.type l0) none (.seq ⟨[]⟩ 0) ⟨[]⟩
noncomputable def o337:Params→Obj:=fun P=>Obj.mk .none none (.fields ⟨[]⟩) ⟨[]⟩
noncomputable def o338:Params→Obj:=fun P=>Obj.mk .none none (.func { fnOf q38 q38 (L2.zF (tp 30)) (L2.zE (tp 30)) (L2.zB (tp 30)) .none .none .none .none none .none .none with globals:=0,builtins:=0 }) ⟨[]⟩
noncomputable def o339:Params→Obj:=fun P=>Obj.mk (.type l1) none (.fields ⟨[(.str q38 469),(.str q38 470),(.str q1 471),(I 140 0),(I 4 0),(I 0 0),(I 0 0),(I 3 0),(.ref 209),(.bool Bool.true),(I 181 0),(.ref 210),.none,.none,.none,(.ref 211),(I 472 0),(I 140 0),(.str q1 473)]⟩) ⟨[]⟩
noncomputable def o340:Params→Obj:=fun P=>Obj.mk (.type l17) none (.func (fnOf q38 q38 (L2.zF (tp 30)) (L2.zE (tp 30)) (L2.zB (tp 30)) .none .none .none (.str q103 430) none (.ref 212) .none)) ⟨[]⟩
noncomputable def o341:Params→Obj:=fun P=>Obj.mk (.type l0) none (.seq ⟨[]⟩ 0) ⟨[]⟩
noncomputable def o342:Params→Obj:=fun P=>Obj.mk .none none (.fields ⟨[]⟩) ⟨[]⟩
noncomputable def o343:Params→Obj:=fun P=>Obj.mk .none none (.func { fnOf q39 q39 (L2.zF (tp 32)) (L2.zE (tp 32)) (L2.zB (tp 32)) .none .none .none .none none .none .none with globals:=0,builtins:=0 }) ⟨[]⟩
noncomputable def o344:Params→Obj:=fun P=>Obj.mk (.type l1) none (.fields ⟨[(.str q39 477),(.str q39 478),(.str q1 479),(I 147 0),(I 2 0),(I 0 0),(I 0 0),(I 3 0),(.ref 214),(.bool Bool.true),(I 181 0),(.ref 215),.none,.none,.none,(.ref 216),(I 480 0),(I 147 0),(.str q1 481)]⟩) ⟨[]⟩
noncomputable def q104:PySem.Str:=⟨Array.mk [101,118,101,110,104,117,98,46,115,101,116,116,105,110,103,115]⟩
noncomputable def o345:Params→Obj:=fun P=>Obj.mk (.type l17) none (.func (fnOf q39 q39 (L2.zF (tp 32)) (L2.zE (tp 32)) (L2.zB (tp 32)) .none .none .none (.str q104 475) none (.ref 217) .none)) ⟨[]⟩
noncomputable def o347:Params→Obj:=fun P=>Obj.mk (.type l0) none (.seq ⟨[]⟩ 0) ⟨[]⟩
noncomputable def o348:Params→Obj:=fun P=>Obj.mk .none none (.fields ⟨[]⟩) ⟨[]⟩
noncomputable def o349:Params→Obj:=fun P=>Obj.mk (.type l0) none (.seq ⟨[(.str q90 486),(.str q101 487)]⟩ 0) ⟨[]⟩
noncomputable def o350:Params→Obj:=fun P=>Obj.mk (.type l0) none (.seq ⟨[]⟩ 0) ⟨[]⟩
noncomputable def o351:Params→Obj:=fun P=>Obj.mk .none none (.func { fnOf q40 q40 (L2.zF (tp 33)) (L2.zE (tp 33)) (L2.zB (tp 33)) .none .none .none .none none .none .none with globals:=0,builtins:=0 }) ⟨[]⟩
noncomputable def o352:Params→Obj:=fun P=>Obj.mk (.type l1) none (.fields ⟨[(.str q40 483),(.str q40 484),(.str q1 485),(I 157 0),(I 1 0),(I 0 0),(I 0 0),(I 3 0),(.ref 219),(.bool Bool.true),(I 181 0),(.ref 220),.none,(.ref 221),(.ref 222),(.ref 223),(I 488 0),(I 157 0),(.str q1 489)]⟩) ⟨[]⟩
noncomputable def o353:Params→Obj:=fun P=>Obj.mk (.type l17) none (.func (fnOf q40 q40 (L2.zF (tp 33)) (L2.zE (tp 33)) (L2.zB (tp 33)) .none .none .none (.str q104 475) none (.ref 224) .none)) ⟨[]⟩
noncomputable def o354:Params→Obj:=fun P=>Obj.mk (.type l0) none (.seq ⟨[]⟩ 0) ⟨[]⟩
noncomputable def o355:Params→Obj:=fun P=>Obj.mk .none none (.fields ⟨[]⟩) ⟨[]⟩
noncomputable def q105:PySem.Str:=⟨Array.mk [104,111,108,101,115]⟩
noncomputable def q106:PySem.Str:=⟨Array.mk [102,105,114,115,116]⟩
noncomputable def o356:Params→Obj:=fun P=>Obj.mk (.type l0) none (.seq ⟨[(.str q90 494),(.str q76 495),(.str q75 496),(.str q105 497),(.str q106 498)]⟩ 0) ⟨[]⟩
noncomputable def o359:Params→Obj:=fun P=>Obj.mk (.type l0) none (.seq ⟨[]⟩ 0) ⟨[]⟩
noncomputable def o360:Params→Obj:=fun P=>Obj.mk .none none (.func { fnOf q41 q41 (L2.zF (tp 34)) (L2.zE (tp 34)) (L2.zB (tp 34)) .none .none .none .none none .none .none with globals:=0,builtins:=0 }) ⟨[]⟩
noncomputable def o361:Params→Obj:=fun P=>Obj.mk (.type l1) none (.fields ⟨[(.str q41 491),(.str q41 492),(.str q1 493),(I 162 0),(I 3 0),(I 0 0),(I 0 0),(I 3 0),(.ref 226),(.bool Bool.true),(I 181 0),(.ref 227),.none,(.ref 228),(.ref 229),(.ref 230),(I 499 0),(I 162 0),(.str q1 500)]⟩) ⟨[]⟩
noncomputable def o362:Params→Obj:=fun P=>Obj.mk (.type l17) none (.func (fnOf q41 q41 (L2.zF (tp 34)) (L2.zE (tp 34)) (L2.zB (tp 34)) .none .none .none (.str q104 475) none (.ref 231) .none)) ⟨[]⟩
noncomputable def o363:Params→Obj:=fun P=>Obj.mk (.type l0) none (.seq ⟨[]⟩ 0) ⟨[]⟩
noncomputable def o364:Params→Obj:=fun P=>Obj.mk .none none (.fields ⟨[]⟩) ⟨[]⟩
noncomputable def q107:PySem.Str:=⟨Array.mk [119,101,105,103,104,116]⟩
noncomputable def q108:PySem.Str:=⟨Array.mk [111,117,116,99,111,109,101]⟩
noncomputable def o365:Params→Obj:=fun P=>Obj.mk (.type l0) none (.seq ⟨[(.str q90 509),(.str q99 510),(.str q107 511),(.str q108 512)]⟩ 0) ⟨[]⟩
noncomputable def o368:Params→Obj:=fun P=>Obj.mk (.type l0) none (.seq ⟨[]⟩ 0) ⟨[]⟩
noncomputable def o369:Params→Obj:=fun P=>Obj.mk .none none (.func { fnOf q43 q43 (L2.zF (tp 37)) (L2.zE (tp 37)) (L2.zB (tp 37)) .none .none .none .none none .none .none with globals:=0,builtins:=0 }) ⟨[]⟩
noncomputable def o370:Params→Obj:=fun P=>Obj.mk (.type l1) none (.fields ⟨[(.str q43 506),(.str q43 507),(.str q1 508),(I 169 0),(I 3 0),(I 0 0),(I 0 0),(I 3 0),(.ref 233),(.bool Bool.true),(I 181 0),(.ref 234),.none,(.ref 235),(.ref 236),(.ref 237),(I 513 0),(I 169 0),(.str q1 514)]⟩) ⟨[]⟩
noncomputable def q109:PySem.Str:=⟨Array.mk [101,118,101,110,104,117,98,46,108,111,97,100,115]⟩
noncomputable def o371:Params→Obj:=fun P=>Obj.mk (.type l17) none (.func (fnOf q43 q43 (L2.zF (tp 37)) (L2.zE (tp 37)) (L2.zB (tp 37)) .none .none .none (.str q109 502) none (.ref 238) .none)) ⟨[]⟩
noncomputable def o373:Params→Obj:=fun P=>Obj.mk (.type l0) none (.seq ⟨[]⟩ 0) ⟨[]⟩
noncomputable def o374:Params→Obj:=fun P=>Obj.mk .none none (.fields ⟨[]⟩) ⟨[]⟩
noncomputable def o375:Params→Obj:=fun P=>Obj.mk .none none (.func { fnOf q44 q44 (L2.zF (tp 38)) (L2.zE (tp 38)) (L2.zB (tp 38)) .none .none .none .none none .none .none with globals:=0,builtins:=0 }) ⟨[]⟩
noncomputable def o376:Params→Obj:=fun P=>Obj.mk (.type l1) none (.fields ⟨[(.str q44 516),(.str q44 517),(.str q1 518),(I 173 0),(I 2 0),(I 0 0),(I 0 0),(I 3 0),(.ref 240),(.bool Bool.true),(I 181 0),(.ref 241),.none,.none,.none,(.ref 242),(I 519 0),(I 173 0),(.str q1 520)]⟩) ⟨[]⟩
noncomputable def o377:Params→Obj:=fun P=>Obj.mk (.type l17) none (.func (fnOf q44 q44 (L2.zF (tp 38)) (L2.zE (tp 38)) (L2.zB (tp 38)) .none .none .none (.str q109 502) none (.ref 243) .none)) ⟨[]⟩
noncomputable def o378:Params→Obj:=fun P=>Obj.mk (.type l0) none (.seq ⟨[]⟩ 0) ⟨[]⟩
noncomputable def o379:Params→Obj:=fun P=>Obj.mk .none none (.fields ⟨[]⟩) ⟨[]⟩
noncomputable def o380:Params→Obj:=fun P=>Obj.mk (.type l0) none (.seq ⟨[(.str q73 525),(.str q74 526)]⟩ 0) ⟨[]⟩
noncomputable def o381:Params→Obj:=fun P=>Obj.mk (.type l0) none (.seq ⟨[]⟩ 0) ⟨[]⟩
noncomputable def o382:Params→Obj:=fun P=>Obj.mk .none none (.func { fnOf q45 q45 (L2.zF (tp 39)) (L2.zE (tp 39)) (L2.zB (tp 39)) .none .none .none .none none .none .none with globals:=0,builtins:=0 }) ⟨[]⟩
noncomputable def o383:Params→Obj:=fun P=>Obj.mk (.type l1) none (.fields ⟨[(.str q45 522),(.str q45 523),(.str q1 524),(I 176 0),(I 2 0),(I 0 0),(I 0 0),(I 3 0),(.ref 245),(.bool Bool.true),(I 181 0),(.ref 246),.none,(.ref 247),(.ref 248),(.ref 249),(I 527 0),(I 176 0),(.str q1 528)]⟩) ⟨[]⟩
noncomputable def o384:Params→Obj:=fun P=>Obj.mk (.type l17) none (.func (fnOf q45 q45 (L2.zF (tp 39)) (L2.zE (tp 39)) (L2.zB (tp 39)) .none .none .none (.str q109 502) none (.ref 250) .none)) ⟨[]⟩
noncomputable def o385:Params→Obj:=fun P=>Obj.mk (.type l0) none (.seq ⟨[]⟩ 0) ⟨[]⟩
noncomputable def o386:Params→Obj:=fun P=>Obj.mk .none none (.fields ⟨[]⟩) ⟨[]⟩
noncomputable def o387:Params→Obj:=fun P=>Obj.mk .none none (.func { fnOf q46 q46 (L2.zF (tp 40)) (L2.zE (tp 40)) (L2.zB (tp 40)) .none .none .none .none none .none .none with globals:=0,builtins:=0 }) ⟨[]⟩
noncomputable def o388:Params→Obj:=fun P=>Obj.mk (.type l1) none (.fields ⟨[(.str q46 530),(.str q46 531),(.str q1 532),(I 179 0),(I 2 0),(I 0 0),(I 0 0),(I 3 0),(.ref 252),(.bool Bool.true),(I 181 0),(.ref 253),.none,.none,.none,(.ref 254),(I 533 0),(I 179 0),(.str q1 534)]⟩) ⟨[]⟩
noncomputable def o389:Params→Obj:=fun P=>Obj.mk (.type l17) none (.func (fnOf q46 q46 (L2.zF (tp 40)) (L2.zE (tp 40)) (L2.zB (tp 40)) .none .none .none (.str q109 502) none (.ref 255) .none)) ⟨[]⟩
noncomputable def o390:Params→Obj:=fun P=>Obj.mk (.type l0) none (.seq ⟨[]⟩ 0) ⟨[]⟩
noncomputable def o391:Params→Obj:=fun P=>Obj.mk .none none (.fields ⟨[]⟩) ⟨[]⟩
noncomputable def o392:Params→Obj:=fun P=>Obj.mk (.type l0) none (.seq ⟨[(.str q98 539),(.str q86 540),(.str q90 541),(.str q108 542),(.str q99 543),(.str q107 544)]⟩ 0) ⟨[]⟩
noncomputable def o393:Params→Obj:=fun P=>Obj.mk (.type l0) none (.seq ⟨[]⟩ 0) ⟨[]⟩
noncomputable def o394:Params→Obj:=fun P=>Obj.mk .none none (.func { fnOf q47 q47 (L2.zF (tp 41)) (L2.zE (tp 41)) (L2.zB (tp 41)) .none .none .none .none none .none .none with globals:=0,builtins:=0 }) ⟨[]⟩
noncomputable def o395:Params→Obj:=fun P=>Obj.mk (.type l1) none (.fields ⟨[(.str q47 536),(.str q47 537),(.str q1 538),(I 181 0),(I 2 0),(I 0 0),(I 0 0),(I 3 0),(.ref 257),(.bool Bool.true),(I 181 0),(.ref 258),.none,(.ref 259),(.ref 260),(.ref 261),(I 545 0),(I 181 0),(.str q1 546)]⟩) ⟨[]⟩
noncomputable def o396:Params→Obj:=fun P=>Obj.mk (.type l17) none (.func (fnOf q47 q47 (L2.zF (tp 41)) (L2.zE (tp 41)) (L2.zB (tp 41)) .none .none .none (.str q109 502) none (.ref 262) .none)) ⟨[]⟩
noncomputable def o397:Params→Obj:=fun P=>Obj.mk (.type l0) none (.seq ⟨[]⟩ 0) ⟨[]⟩
noncomputable def o398:Params→Obj:=fun P=>Obj.mk .none none (.fields ⟨[]⟩) ⟨[]⟩
noncomputable def o399:Params→Obj:=fun P=>Obj.mk (.type l0) none (.seq ⟨[(.str q92 553),(.str q93 554)]⟩ 0) ⟨[]⟩
noncomputable def o400:Params→Obj:=fun P=>Obj.mk (.type l0) none (.seq ⟨[]⟩ 0) ⟨[]⟩
noncomputable def o401:Params→Obj:=fun P=>Obj.mk .none none (.func { fnOf q48 q48 (L2.zF (tp 43)) (L2.zE (tp 43)) (L2.zB (tp 43)) .none .none .none .none none .none .none with globals:=0,builtins:=0 }) ⟨[]⟩
noncomputable def o402:Params→Obj:=fun P=>Obj.mk (.type l1) none (.fields ⟨[(.str q48 550),(.str q48 551),(.str q1 552),(I 190 0),(I 2 0),(I 0 0),(I 0 0),(I 3 0),(.ref 264),(.bool Bool.true),(I 181 0),(.ref 265),.none,(.ref 266),(.ref 267),(.ref 268),(I 555 0),(I 190 0),(.str q1 556)]⟩) ⟨[]⟩
noncomputable def q110:PySem.Str:=⟨Array.mk [101,118,101,110,104,117,98,46,114,101,115,116,115]⟩
noncomputable def o403:Params→Obj:=fun P=>Obj.mk (.type l17) none (.func (fnOf q48 q48 (L2.zF (tp 43)) (L2.zE (tp 43)) (L2.zB (tp 43)) .none .none .none (.str q110 548) none (.ref 269) .none)) ⟨[]⟩
noncomputable def o405:Params→Obj:=fun P=>Obj.mk (.type l0) none (.seq ⟨[]⟩ 0) ⟨[]⟩
noncomputable def o406:Params→Obj:=fun P=>Obj.mk .none none (.fields ⟨[]⟩) ⟨[]⟩
noncomputable def q111:PySem.Str:=⟨Array.mk [114,111,119,115]⟩
noncomputable def o407:Params→Obj:=fun P=>Obj.mk (.type l0) none (.seq ⟨[(.str q98 561),(.str q90 562),(.str q77 563),(.str q111 564),(.str q92 565),(.str q93 566),(.str q99 567),(.str q86 568)]⟩ 0) ⟨[]⟩
noncomputable def o409:Params→Obj:=fun P=>Obj.mk (.type l0) none (.seq ⟨[]⟩ 0) ⟨[]⟩
noncomputable def o410:Params→Obj:=fun P=>Obj.mk .none none (.func { fnOf q49 q49 (L2.zF (tp 44)) (L2.zE (tp 44)) (L2.zB (tp 44)) .none .none .none .none none .none .none with globals:=0,builtins:=0 }) ⟨[]⟩
noncomputable def o411:Params→Obj:=fun P=>Obj.mk (.type l1) none (.fields ⟨[(.str q49 558),(.str q49 559),(.str q1 560),(I 192 0),(I 1 0),(I 0 0),(I 0 0),(I 3 0),(.ref 271),(.bool Bool.true),(I 181 0),(.ref 272),.none,(.ref 273),(.ref 274),(.ref 275),(I 569 0),(I 192 0),(.str q1 570)]⟩) ⟨[]⟩
noncomputable def o412:Params→Obj:=fun P=>Obj.mk (.type l17) none (.func (fnOf q49 q49 (L2.zF (tp 44)) (L2.zE (tp 44)) (L2.zB (tp 44)) .none .none .none (.str q110 548) none (.ref 276) .none)) ⟨[]⟩
noncomputable def o413:Params→Obj:=fun P=>Obj.mk (.type l0) none (.seq ⟨[]⟩ 0) ⟨[]⟩
noncomputable def o414:Params→Obj:=fun P=>Obj.mk .none none (.fields ⟨[]⟩) ⟨[]⟩
noncomputable def o415:Params→Obj:=fun P=>Obj.mk .none none (.func { fnOf q50 q50 (L2.zF (tp 45)) (L2.zE (tp 45)) (L2.zB (tp 45)) .none .none .none .none none .none .none with globals:=0,builtins:=0 }) ⟨[]⟩
noncomputable def o416:Params→Obj:=fun P=>Obj.mk (.type l1) none (.fields ⟨[(.str q50 572),(.str q50 573),(.str q1 574),(I 203 0),(I 3 0),(I 0 0),(I 0 0),(I 3 0),(.ref 278),(.bool Bool.true),(I 181 0),(.ref 279),.none,.none,.none,(.ref 280),(I 575 0),(I 203 0),(.str q1 576)]⟩) ⟨[]⟩
noncomputable def o417:Params→Obj:=fun P=>Obj.mk (.type l17) none (.func (fnOf q50 q50 (L2.zF (tp 45)) (L2.zE (tp 45)) (L2.zB (tp 45)) .none .none .none (.str q110 548) none (.ref 281) .none)) ⟨[]⟩
noncomputable def o418:Params→Obj:=fun P=>Obj.mk (.type l0) none (.seq ⟨[]⟩ 0) ⟨[]⟩
noncomputable def o419:Params→Obj:=fun P=>Obj.mk .none none (.fields ⟨[]⟩) ⟨[]⟩
noncomputable def o420:Params→Obj:=fun P=>Obj.mk .none none (.func { fnOf q51 q51 (L2.zF (tp 47)) (L2.zE (tp 47)) (L2.zB (tp 47)) .none .none .none .none none .none .none with globals:=0,builtins:=0 }) ⟨[]⟩
noncomputable def o421:Params→Obj:=fun P=>Obj.mk (.type l1) none (.fields ⟨[(.str q51 580),(.str q51 581),(.str q1 582),(I 207 0),(I 2 0),(I 0 0),(I 0 0),(I 3 0),(.ref 283),(.bool Bool.true),(I 181 0),(.ref 284),.none,.none,.none,(.ref 285),(I 583 0),(I 207 0),(.str q1 584)]⟩) ⟨[]⟩
noncomputable def q112:PySem.Str:=⟨Array.mk [101,118,101,110,104,117,98,46,116,101,108,108,105,110,103,115]⟩
noncomputable def o422:Params→Obj:=fun P=>Obj.mk (.type l17) none (.func (fnOf q51 q51 (L2.zF (tp 47)) (L2.zE (tp 47)) (L2.zB (tp 47)) .none .none .none (.str q112 578) none (.ref 286) .none)) ⟨[]⟩
noncomputable def o424:Params→Obj:=fun P=>Obj.mk (.type l0) none (.seq ⟨[]⟩ 0) ⟨[]⟩
noncomputable def o425:Params→Obj:=fun P=>Obj.mk .none none (.fields ⟨[]⟩) ⟨[]⟩
noncomputable def q113:PySem.Str:=⟨Array.mk [111,116,104,101,114,115]⟩
noncomputable def q114:PySem.Str:=⟨Array.mk [110,117,109,98,101,114]⟩
noncomputable def o426:Params→Obj:=fun P=>Obj.mk (.type l0) none (.seq ⟨[(.str q106 589),(.str q113 590),(.str q108 591),(.str q114 592)]⟩ 0) ⟨[]⟩
noncomputable def o429:Params→Obj:=fun P=>Obj.mk (.type l0) none (.seq ⟨[]⟩ 0) ⟨[]⟩
noncomputable def o430:Params→Obj:=fun P=>Obj.mk .none none (.func { fnOf q52 q52 (L2.zF (tp 48)) (L2.zE (tp 48)) (L2.zB (tp 48)) .none .none .none .none none .none .none with globals:=0,builtins:=0 }) ⟨[]⟩
noncomputable def o431:Params→Obj:=fun P=>Obj.mk (.type l1) none (.fields ⟨[(.str q52 586),(.str q52 587),(.str q1 588),(I 218 0),(I 2 0),(I 0 0),(I 0 0),(I 3 0),(.ref 288),(.bool Bool.true),(I 181 0),(.ref 289),.none,(.ref 290),(.ref 291),(.ref 292),(I 593 0),(I 218 0),(.str q1 594)]⟩) ⟨[]⟩
noncomputable def o432:Params→Obj:=fun P=>Obj.mk (.type l17) none (.func (fnOf q52 q52 (L2.zF (tp 48)) (L2.zE (tp 48)) (L2.zB (tp 48)) .none .none .none (.str q112 578) none (.ref 293) .none)) ⟨[]⟩
noncomputable def o433:Params→Obj:=fun P=>Obj.mk (.type l0) none (.seq ⟨[]⟩ 0) ⟨[]⟩
noncomputable def o434:Params→Obj:=fun P=>Obj.mk .none none (.fields ⟨[]⟩) ⟨[]⟩
noncomputable def o435:Params→Obj:=fun P=>Obj.mk (.type l0) none (.seq ⟨[(.str q86 599)]⟩ 0) ⟨[]⟩
noncomputable def o436:Params→Obj:=fun P=>Obj.mk (.type l0) none (.seq ⟨[]⟩ 0) ⟨[]⟩
noncomputable def o437:Params→Obj:=fun P=>Obj.mk .none none (.func { fnOf q53 q53 (L2.zF (tp 49)) (L2.zE (tp 49)) (L2.zB (tp 49)) .none .none .none .none none .none .none with globals:=0,builtins:=0 }) ⟨[]⟩
noncomputable def o438:Params→Obj:=fun P=>Obj.mk (.type l1) none (.fields ⟨[(.str q53 596),(.str q53 597),(.str q1 598),(I 223 0),(I 1 0),(I 0 0),(I 0 0),(I 3 0),(.ref 295),(.bool Bool.true),(I 181 0),(.ref 296),.none,(.ref 297),(.ref 298),(.ref 299),(I 600 0),(I 223 0),(.str q1 601)]⟩) ⟨[]⟩
noncomputable def o439:Params→Obj:=fun P=>Obj.mk (.type l17) none (.func (fnOf q53 q53 (L2.zF (tp 49)) (L2.zE (tp 49)) (L2.zB (tp 49)) .none .none .none (.str q112 578) none (.ref 300) .none)) ⟨[]⟩
noncomputable def o440:Params→Obj:=fun P=>Obj.mk (.type l0) none (.seq ⟨[]⟩ 0) ⟨[]⟩
noncomputable def o441:Params→Obj:=fun P=>Obj.mk .none none (.fields ⟨[]⟩) ⟨[]⟩
noncomputable def o442:Params→Obj:=fun P=>Obj.mk (.type l0) none (.seq ⟨[(.str q90 606),(.str q99 607)]⟩ 0) ⟨[]⟩
noncomputable def o443:Params→Obj:=fun P=>Obj.mk (.type l0) none (.seq ⟨[]⟩ 0) ⟨[]⟩
noncomputable def o444:Params→Obj:=fun P=>Obj.mk .none none (.func { fnOf q54 q54 (L2.zF (tp 50)) (L2.zE (tp 50)) (L2.zB (tp 50)) .none .none .none .none none .none .none with globals:=0,builtins:=0 }) ⟨[]⟩
noncomputable def o445:Params→Obj:=fun P=>Obj.mk (.type l1) none (.fields ⟨[(.str q54 603),(.str q54 604),(.str q1 605),(I 225 0),(I 2 0),(I 0 0),(I 0 0),(I 3 0),(.ref 302),(.bool Bool.true),(I 181 0),(.ref 303),.none,(.ref 304),(.ref 305),(.ref 306),(I 608 0),(I 225 0),(.str q1 609)]⟩) ⟨[]⟩
noncomputable def o446:Params→Obj:=fun P=>Obj.mk (.type l17) none (.func (fnOf q54 q54 (L2.zF (tp 50)) (L2.zE (tp 50)) (L2.zB (tp 50)) .none .none .none (.str q112 578) none (.ref 307) .none)) ⟨[]⟩
noncomputable def o447:Params→Obj:=fun P=>Obj.mk (.type l0) none (.seq ⟨[]⟩ 0) ⟨[]⟩
noncomputable def o448:Params→Obj:=fun P=>Obj.mk .none none (.fields ⟨[]⟩) ⟨[]⟩
noncomputable def q115:PySem.Str:=⟨Array.mk [120]⟩
noncomputable def o449:Params→Obj:=fun P=>Obj.mk (.type l0) none (.seq ⟨[(.str q115 614),(.str q90 615)]⟩ 0) ⟨[]⟩
noncomputable def o451:Params→Obj:=fun P=>Obj.mk (.type l0) none (.seq ⟨[]⟩ 0) ⟨[]⟩
noncomputable def o452:Params→Obj:=fun P=>Obj.mk .none none (.func { fnOf q55 q55 (L2.zF (tp 51)) (L2.zE (tp 51)) (L2.zB (tp 51)) .none .none .none .none none .none .none with globals:=0,builtins:=0 }) ⟨[]⟩
noncomputable def o453:Params→Obj:=fun P=>Obj.mk (.type l1) none (.fields ⟨[(.str q55 611),(.str q55 612),(.str q1 613),(I 227 0),(I 2 0),(I 0 0),(I 0 0),(I 3 0),(.ref 309),(.bool Bool.true),(I 181 0),(.ref 310),.none,(.ref 311),(.ref 312),(.ref 313),(I 616 0),(I 227 0),(.str q1 617)]⟩) ⟨[]⟩
noncomputable def o454:Params→Obj:=fun P=>Obj.mk (.type l17) none (.func (fnOf q55 q55 (L2.zF (tp 51)) (L2.zE (tp 51)) (L2.zB (tp 51)) .none .none .none (.str q112 578) none (.ref 314) .none)) ⟨[]⟩
noncomputable def o455:Params→Obj:=fun P=>Obj.mk (.type l0) none (.seq ⟨[]⟩ 0) ⟨[]⟩
noncomputable def o456:Params→Obj:=fun P=>Obj.mk .none none (.fields ⟨[]⟩) ⟨[]⟩
noncomputable def q116:PySem.Str:=⟨Array.mk [121]⟩
noncomputable def o457:Params→Obj:=fun P=>Obj.mk (.type l0) none (.seq ⟨[(.str q115 622),(.str q116 623),(.str q90 624)]⟩ 0) ⟨[]⟩
noncomputable def o459:Params→Obj:=fun P=>Obj.mk (.type l0) none (.seq ⟨[]⟩ 0) ⟨[]⟩
noncomputable def o460:Params→Obj:=fun P=>Obj.mk .none none (.func { fnOf q56 q56 (L2.zF (tp 52)) (L2.zE (tp 52)) (L2.zB (tp 52)) .none .none .none .none none .none .none with globals:=0,builtins:=0 }) ⟨[]⟩
noncomputable def o461:Params→Obj:=fun P=>Obj.mk (.type l1) none (.fields ⟨[(.str q56 619),(.str q56 620),(.str q1 621),(I 231 0),(I 2 0),(I 0 0),(I 0 0),(I 3 0),(.ref 316),(.bool Bool.true),(I 181 0),(.ref 317),.none,(.ref 318),(.ref 319),(.ref 320),(I 625 0),(I 231 0),(.str q1 626)]⟩) ⟨[]⟩
noncomputable def o462:Params→Obj:=fun P=>Obj.mk (.type l17) none (.func (fnOf q56 q56 (L2.zF (tp 52)) (L2.zE (tp 52)) (L2.zB (tp 52)) .none .none .none (.str q112 578) none (.ref 321) .none)) ⟨[]⟩
noncomputable def o463:Params→Obj:=fun P=>Obj.mk (.type l0) none (.seq ⟨[]⟩ 0) ⟨[]⟩
noncomputable def o464:Params→Obj:=fun P=>Obj.mk .none none (.fields ⟨[]⟩) ⟨[]⟩
noncomputable def o465:Params→Obj:=fun P=>Obj.mk (.type l0) none (.seq ⟨[(.str q115 631),(.str q116 632),(.str q90 633)]⟩ 0) ⟨[]⟩
noncomputable def o466:Params→Obj:=fun P=>Obj.mk (.type l0) none (.seq ⟨[]⟩ 0) ⟨[]⟩
noncomputable def o467:Params→Obj:=fun P=>Obj.mk .none none (.func { fnOf q57 q57 (L2.zF (tp 53)) (L2.zE (tp 53)) (L2.zB (tp 53)) .none .none .none .none none .none .none with globals:=0,builtins:=0 }) ⟨[]⟩
noncomputable def o468:Params→Obj:=fun P=>Obj.mk (.type l1) none (.fields ⟨[(.str q57 628),(.str q57 629),(.str q1 630),(I 236 0),(I 3 0),(I 0 0),(I 0 0),(I 3 0),(.ref 323),(.bool Bool.true),(I 181 0),(.ref 324),.none,(.ref 325),(.ref 326),(.ref 327),(I 634 0),(I 236 0),(.str q1 635)]⟩) ⟨[]⟩
noncomputable def o469:Params→Obj:=fun P=>Obj.mk (.type l17) none (.func (fnOf q57 q57 (L2.zF (tp 53)) (L2.zE (tp 53)) (L2.zB (tp 53)) .none .none .none (.str q112 578) none (.ref 328) .none)) ⟨[]⟩
noncomputable def o470:Params→Obj:=fun P=>Obj.mk (.type l0) none (.seq ⟨[]⟩ 0) ⟨[]⟩
noncomputable def o471:Params→Obj:=fun P=>Obj.mk .none none (.fields ⟨[]⟩) ⟨[]⟩
noncomputable def o472:Params→Obj:=fun P=>Obj.mk (.type l0) none (.seq ⟨[(.str q115 640),(.str q116 641),(.str q90 642)]⟩ 0) ⟨[]⟩
noncomputable def o473:Params→Obj:=fun P=>Obj.mk (.type l0) none (.seq ⟨[]⟩ 0) ⟨[]⟩
noncomputable def o474:Params→Obj:=fun P=>Obj.mk .none none (.func { fnOf q58 q58 (L2.zF (tp 54)) (L2.zE (tp 54)) (L2.zB (tp 54)) .none .none .none .none none .none .none with globals:=0,builtins:=0 }) ⟨[]⟩
noncomputable def o475:Params→Obj:=fun P=>Obj.mk (.type l1) none (.fields ⟨[(.str q58 637),(.str q58 638),(.str q1 639),(I 238 0),(I 2 0),(I 0 0),(I 0 0),(I 3 0),(.ref 330),(.bool Bool.true),(I 181 0),(.ref 331),.none,(.ref 332),(.ref 333),(.ref 334),(I 643 0),(I 238 0),(.str q1 644)]⟩) ⟨[]⟩
noncomputable def o476:Params→Obj:=fun P=>Obj.mk (.type l17) none (.func (fnOf q58 q58 (L2.zF (tp 54)) (L2.zE (tp 54)) (L2.zB (tp 54)) .none .none .none (.str q112 578) none (.ref 335) .none)) ⟨[]⟩
noncomputable def o477:Params→Obj:=fun P=>Obj.mk (.type l0) none (.seq ⟨[]⟩ 0) ⟨[]⟩
noncomputable def o478:Params→Obj:=fun P=>Obj.mk .none none (.fields ⟨[]⟩) ⟨[]⟩
noncomputable def q117:PySem.Str:=⟨Array.mk [115,99,114,105,112,116]⟩
noncomputable def q118:PySem.Str:=⟨Array.mk [107]⟩
noncomputable def o479:Params→Obj:=fun P=>Obj.mk (.type l0) none (.seq ⟨[(.str q117 651),(.str q118 652)]⟩ 0) ⟨[]⟩
noncomputable def o482:Params→Obj:=fun P=>Obj.mk (.type l0) none (.seq ⟨[]⟩ 0) ⟨[]⟩
noncomputable def o483:Params→Obj:=fun P=>Obj.mk .none none (.func { fnOf q59 q59 (L2.zF (tp 56)) (L2.zE (tp 56)) (L2.zB (tp 56)) .none .none .none .none none .none .none with globals:=0,builtins:=0 }) ⟨[]⟩
noncomputable def o484:Params→Obj:=fun P=>Obj.mk (.type l1) none (.fields ⟨[(.str q59 648),(.str q59 649),(.str q1 650),(I 242 0),(I 2 0),(I 0 0),(I 0 0),(I 3 0),(.ref 337),(.bool Bool.true),(I 181 0),(.ref 338),.none,(.ref 339),(.ref 340),(.ref 341),(I 653 0),(I 242 0),(.str q1 654)]⟩) ⟨[]⟩
noncomputable def o485:Params→Obj:=fun P=>Obj.mk (.type l17) none (.func (fnOf q59 q59 (L2.zF (tp 56)) (L2.zE (tp 56)) (L2.zB (tp 56)) .none .none .none (.str q4 646) none (.ref 342) .none)) ⟨[]⟩
noncomputable def o486:Params→Obj:=fun P=>Obj.mk (.type l0) none (.seq ⟨[]⟩ 0) ⟨[]⟩
noncomputable def o487:Params→Obj:=fun P=>Obj.mk .none none (.fields ⟨[]⟩) ⟨[]⟩
noncomputable def o488:Params→Obj:=fun P=>Obj.mk (.type l0) none (.seq ⟨[(.str q91 659)]⟩ 0) ⟨[]⟩
noncomputable def o489:Params→Obj:=fun P=>Obj.mk (.type l0) none (.seq ⟨[]⟩ 0) ⟨[]⟩
noncomputable def o490:Params→Obj:=fun P=>Obj.mk .none none (.func { fnOf q60 q60 (L2.zF (tp 57)) (L2.zE (tp 57)) (L2.zB (tp 57)) .none .none .none .none none .none .none with globals:=0,builtins:=0 }) ⟨[]⟩
noncomputable def o491:Params→Obj:=fun P=>Obj.mk (.type l1) none (.fields ⟨[(.str q60 656),(.str q60 657),(.str q1 658),(I 246 0),(I 1 0),(I 0 0),(I 0 0),(I 3 0),(.ref 344),(.bool Bool.true),(I 181 0),(.ref 345),.none,(.ref 346),(.ref 347),(.ref 348),(I 660 0),(I 246 0),(.str q1 661)]⟩) ⟨[]⟩
noncomputable def o492:Params→Obj:=fun P=>Obj.mk (.type l17) none (.func (fnOf q60 q60 (L2.zF (tp 57)) (L2.zE (tp 57)) (L2.zB (tp 57)) .none .none .none (.str q4 646) none (.ref 349) .none)) ⟨[]⟩
noncomputable def o493:Params→Obj:=fun P=>Obj.mk (.type l0) none (.seq ⟨[]⟩ 0) ⟨[]⟩
noncomputable def o494:Params→Obj:=fun P=>Obj.mk .none none (.fields ⟨[]⟩) ⟨[]⟩
noncomputable def q119:PySem.Str:=⟨Array.mk [109,97,100,101]⟩
noncomputable def o495:Params→Obj:=fun P=>Obj.mk (.type l0) none (.seq ⟨[(.str q90 666),(.str q119 667),(.str q77 668),(.str q92 669)]⟩ 0) ⟨[]⟩
noncomputable def o497:Params→Obj:=fun P=>Obj.mk (.type l0) none (.seq ⟨[]⟩ 0) ⟨[]⟩
noncomputable def o498:Params→Obj:=fun P=>Obj.mk .none none (.func { fnOf q61 q61 (L2.zF (tp 58)) (L2.zE (tp 58)) (L2.zB (tp 58)) .none .none .none .none none .none .none with globals:=0,builtins:=0 }) ⟨[]⟩
noncomputable def o499:Params→Obj:=fun P=>Obj.mk (.type l1) none (.fields ⟨[(.str q61 663),(.str q61 664),(.str q1 665),(I 248 0),(I 1 0),(I 0 0),(I 0 0),(I 3 0),(.ref 351),(.bool Bool.true),(I 181 0),(.ref 352),.none,(.ref 353),(.ref 354),(.ref 355),(I 670 0),(I 248 0),(.str q1 671)]⟩) ⟨[]⟩
noncomputable def o500:Params→Obj:=fun P=>Obj.mk (.type l17) none (.func (fnOf q61 q61 (L2.zF (tp 58)) (L2.zE (tp 58)) (L2.zB (tp 58)) .none .none .none (.str q4 646) none (.ref 356) .none)) ⟨[]⟩
noncomputable def o501:Params→Obj:=fun P=>Obj.mk (.type l0) none (.seq ⟨[]⟩ 0) ⟨[]⟩
noncomputable def o502:Params→Obj:=fun P=>Obj.mk .none none (.fields ⟨[]⟩) ⟨[]⟩
noncomputable def q120:PySem.Str:=⟨Array.mk [115,111,109,101]⟩
noncomputable def q121:PySem.Str:=⟨Array.mk [115,101,101,110]⟩
noncomputable def q122:PySem.Str:=⟨Array.mk [114,111,119]⟩
noncomputable def q123:PySem.Str:=⟨Array.mk [97,116]⟩
noncomputable def o503:Params→Obj:=fun P=>Obj.mk (.type l0) none (.seq ⟨[(.str q98 676),(.str q111 677),(.str q90 678),(.str q77 679),(.str q120 680),(.str q121 681),(.str q122 682),(.str q118 683),(.str q123 684)]⟩ 0) ⟨[]⟩
noncomputable def o508:Params→Obj:=fun P=>Obj.mk (.type l0) none (.seq ⟨[]⟩ 0) ⟨[]⟩
noncomputable def o509:Params→Obj:=fun P=>Obj.mk .none none (.func { fnOf q62 q62 (L2.zF (tp 59)) (L2.zE (tp 59)) (L2.zB (tp 59)) .none .none .none .none none .none .none with globals:=0,builtins:=0 }) ⟨[]⟩
noncomputable def o510:Params→Obj:=fun P=>Obj.mk (.type l1) none (.fields ⟨[(.str q62 673),(.str q62 674),(.str q1 675),(I 259 0),(I 2 0),(I 0 0),(I 0 0),(I 3 0),(.ref 358),(.bool Bool.true),(I 181 0),(.ref 359),.none,(.ref 360),(.ref 361),(.ref 362),(I 685 0),(I 259 0),(.str q1 686)]⟩) ⟨[]⟩
noncomputable def o511:Params→Obj:=fun P=>Obj.mk (.type l17) none (.func (fnOf q62 q62 (L2.zF (tp 59)) (L2.zE (tp 59)) (L2.zB (tp 59)) .none .none .none (.str q4 646) none (.ref 363) .none)) ⟨[]⟩
noncomputable def o512:Params→Obj:=fun P=>Obj.mk (.type l0) none (.seq ⟨[]⟩ 0) ⟨[]⟩
noncomputable def o513:Params→Obj:=fun P=>Obj.mk .none none (.fields ⟨[]⟩) ⟨[]⟩
noncomputable def q124:PySem.Str:=⟨Array.mk [99,101,108,108]⟩
noncomputable def o514:Params→Obj:=fun P=>Obj.mk (.type l0) none (.seq ⟨[(.str q124 691),(.str q90 692),(.str q120 693),(.str q92 694)]⟩ 0) ⟨[]⟩
noncomputable def o516:Params→Obj:=fun P=>Obj.mk (.type l0) none (.seq ⟨[]⟩ 0) ⟨[]⟩
noncomputable def o517:Params→Obj:=fun P=>Obj.mk .none none (.func { fnOf q63 q63 (L2.zF (tp 60)) (L2.zE (tp 60)) (L2.zB (tp 60)) .none .none .none .none none .none .none with globals:=0,builtins:=0 }) ⟨[]⟩
noncomputable def o518:Params→Obj:=fun P=>Obj.mk (.type l1) none (.fields ⟨[(.str q63 688),(.str q63 689),(.str q1 690),(I 280 0),(I 1 0),(I 0 0),(I 0 0),(I 3 0),(.ref 365),(.bool Bool.true),(I 181 0),(.ref 366),.none,(.ref 367),(.ref 368),(.ref 369),(I 695 0),(I 280 0),(.str q1 696)]⟩) ⟨[]⟩
noncomputable def o519:Params→Obj:=fun P=>Obj.mk (.type l17) none (.func (fnOf q63 q63 (L2.zF (tp 60)) (L2.zE (tp 60)) (L2.zB (tp 60)) .none .none .none (.str q4 646) none (.ref 370) .none)) ⟨[]⟩
noncomputable def o520:Params→Obj:=fun P=>Obj.mk (.type l0) none (.seq ⟨[]⟩ 0) ⟨[]⟩
noncomputable def o521:Params→Obj:=fun P=>Obj.mk .none none (.fields ⟨[]⟩) ⟨[]⟩
noncomputable def o522:Params→Obj:=fun P=>Obj.mk (.type l0) none (.seq ⟨[(.str q120 701),(.str q86 702),(.str q118 703),(.str q77 704)]⟩ 0) ⟨[]⟩
noncomputable def o523:Params→Obj:=fun P=>Obj.mk (.type l0) none (.seq ⟨[]⟩ 0) ⟨[]⟩
noncomputable def o524:Params→Obj:=fun P=>Obj.mk .none none (.func { fnOf q64 q64 (L2.zF (tp 61)) (L2.zE (tp 61)) (L2.zB (tp 61)) .none .none .none .none none .none .none with globals:=0,builtins:=0 }) ⟨[]⟩
noncomputable def o525:Params→Obj:=fun P=>Obj.mk (.type l1) none (.fields ⟨[(.str q64 698),(.str q64 699),(.str q1 700),(I 287 0),(I 2 0),(I 0 0),(I 0 0),(I 3 0),(.ref 372),(.bool Bool.true),(I 181 0),(.ref 373),.none,(.ref 374),(.ref 375),(.ref 376),(I 705 0),(I 287 0),(.str q1 706)]⟩) ⟨[]⟩
noncomputable def o526:Params→Obj:=fun P=>Obj.mk (.type l17) none (.func (fnOf q64 q64 (L2.zF (tp 61)) (L2.zE (tp 61)) (L2.zB (tp 61)) .none .none .none (.str q4 646) none (.ref 377) .none)) ⟨[]⟩
noncomputable def o527:Params→Obj:=fun P=>Obj.mk (.type l0) none (.seq ⟨[]⟩ 0) ⟨[]⟩
noncomputable def o528:Params→Obj:=fun P=>Obj.mk .none none (.fields ⟨[]⟩) ⟨[]⟩
noncomputable def q125:PySem.Str:=⟨Array.mk [103,111,111,100]⟩
noncomputable def q126:PySem.Str:=⟨Array.mk [116,111,116,97,108]⟩
noncomputable def o529:Params→Obj:=fun P=>Obj.mk (.type l0) none (.seq ⟨[(.str q90 711),(.str q86 712),(.str q120 713),(.str q91 714),(.str q125 715),(.str q126 716),(.str q102 717),(.str q99 718)]⟩ 0) ⟨[]⟩
noncomputable def o532:Params→Obj:=fun P=>Obj.mk (.type l0) none (.seq ⟨[]⟩ 0) ⟨[]⟩
noncomputable def o533:Params→Obj:=fun P=>Obj.mk .none none (.func { fnOf q65 q65 (L2.zF (tp 62)) (L2.zE (tp 62)) (L2.zB (tp 62)) .none .none .none .none none .none .none with globals:=0,builtins:=0 }) ⟨[]⟩
noncomputable def o534:Params→Obj:=fun P=>Obj.mk (.type l1) none (.fields ⟨[(.str q65 708),(.str q65 709),(.str q1 710),(I 297 0),(I 3 0),(I 0 0),(I 0 0),(I 3 0),(.ref 379),(.bool Bool.true),(I 181 0),(.ref 380),.none,(.ref 381),(.ref 382),(.ref 383),(I 719 0),(I 297 0),(.str q1 720)]⟩) ⟨[]⟩
noncomputable def o535:Params→Obj:=fun P=>Obj.mk (.type l17) none (.func (fnOf q65 q65 (L2.zF (tp 62)) (L2.zE (tp 62)) (L2.zB (tp 62)) .none .none .none (.str q4 646) none (.ref 384) .none)) ⟨[]⟩
noncomputable def o536:Params→Obj:=fun P=>Obj.mk (.type l0) none (.seq ⟨[]⟩ 0) ⟨[]⟩
noncomputable def o537:Params→Obj:=fun P=>Obj.mk .none none (.fields ⟨[]⟩) ⟨[]⟩
noncomputable def o538:Params→Obj:=fun P=>Obj.mk .none none (.func { fnOf q66 q66 (L2.zF (tp 63)) (L2.zE (tp 63)) (L2.zB (tp 63)) .none .none .none .none none .none .none with globals:=0,builtins:=0 }) ⟨[]⟩
noncomputable def o539:Params→Obj:=fun P=>Obj.mk (.type l1) none (.fields ⟨[(.str q66 722),(.str q66 723),(.str q1 724),(I 315 0),(I 1 0),(I 0 0),(I 0 0),(I 3 0),(.ref 386),(.bool Bool.true),(I 181 0),(.ref 387),.none,.none,.none,(.ref 388),(I 725 0),(I 315 0),(.str q1 726)]⟩) ⟨[]⟩
noncomputable def o540:Params→Obj:=fun P=>Obj.mk (.type l17) none (.func (fnOf q66 q66 (L2.zF (tp 63)) (L2.zE (tp 63)) (L2.zB (tp 63)) .none .none .none (.str q4 646) none (.ref 389) .none)) ⟨[]⟩
noncomputable def T0:PySem.Params→PySem.W.BT:=fun P=>(.node (PySem.W.boot_o_0 P) (.node (PySem.W.boot_o_1 P) (.node (o24 P) (.node (PySem.W.boot_o_7 P) (.node (o92 P) (.node (o126 P) (.node (o158 P) (.node (o233 P) (.node (o388 P) .nil .nil) (.node (o533 P) .nil .nil)) (.node (o318 P) (.node (o459 P) .nil .nil) .nil)) (.node (o190 P) (.node (o279 P) (.node (o422 P) .nil .nil) .nil) (.node (o351 P) (.node (o493 P) .nil .nil) .nil))) (.node (o142 P) (.node (o174 P) (.node (o256 P) (.node (o405 P) .nil .nil) .nil) (.node (o334 P) (.node (o475 P) .nil .nil) .nil)) (.node (o213 P) (.node (o299 P) (.node (o441 P) .nil .nil) .nil) (.node (o371 P) (.node (o514 P) .nil .nil) .nil)))) (.node (o109 P) (.node (o134 P) (.node (o166 P) (.node (o243 P) (.node (o396 P) .nil .nil) .nil) (.node (o326 P) (.node (o467 P) .nil .nil) .nil)) (.node (o203 P) (.node (o287 P) (.node (o433 P) .nil .nil) .nil) (.node (o361 P) (.node (o502 P) .nil .nil) .nil))) (.node (o150 P) (.node (o182 P) (.node (o269 P) (.node (o414 P) .nil .nil) .nil) (.node (o342 P) (.node (o485 P) .nil .nil) .nil)) (.node (o224 P) (.node (o307 P) (.node (o449 P) .nil .nil) .nil) (.node (o380 P) (.node (o523 P) .nil .nil) .nil))))) (.node (o0 P) (.node (o105 P) (.node (o130 P) (.node (o162 P) (.node (o239 P) (.node (o392 P) .nil .nil) (.node (o537 P) .nil .nil)) (.node (o322 P) (.node (o463 P) .nil .nil) .nil)) (.node (o194 P) (.node (o283 P) (.node (o429 P) .nil .nil) .nil) (.node (o355 P) (.node (o498 P) .nil .nil) .nil))) (.node (o146 P) (.node (o178 P) (.node (o264 P) (.node (o410 P) .nil .nil) .nil) (.node (o338 P) (.node (o479 P) .nil .nil) .nil)) (.node (o217 P) (.node (o303 P) (.node (o445 P) .nil .nil) .nil) (.node (o376 P) (.node (o519 P) .nil .nil) .nil)))) (.node (o121 P) (.node (o138 P) (.node (o170 P) (.node (o252 P) (.node (o400 P) .nil .nil) .nil) (.node (o330 P) (.node (o471 P) .nil .nil) .nil)) (.node (o209 P) (.node (o295 P) (.node (o437 P) .nil .nil) .nil) (.node (o365 P) (.node (o510 P) .nil .nil) .nil))) (.node (o154 P) (.node (o186 P) (.node (o273 P) (.node (o418 P) .nil .nil) .nil) (.node (o347 P) (.node (o489 P) .nil .nil) .nil)) (.node (o228 P) (.node (o313 P) (.node (o454 P) .nil .nil) .nil) (.node (o384 P) (.node (o527 P) .nil .nil) .nil)))))) (.node (PySem.W.boot_o_5 P) (.node (PySem.W.boot_o_9 P) (.node (o98 P) (.node (o128 P) (.node (o160 P) (.node (o235 P) (.node (o390 P) .nil .nil) (.node (o535 P) .nil .nil)) (.node (o320 P) (.node (o461 P) .nil .nil) .nil)) (.node (o192 P) (.node (o281 P) (.node (o425 P) .nil .nil) .nil) (.node (o353 P) (.node (o495 P) .nil .nil) .nil))) (.node (o144 P) (.node (o176 P) (.node (o262 P) (.node (o407 P) .nil .nil) .nil) (.node (o336 P) (.node (o477 P) .nil .nil) .nil)) (.node (o215 P) (.node (o301 P) (.node (o443 P) .nil .nil) .nil) (.node (o374 P) (.node (o517 P) .nil .nil) .nil)))) (.node (o116 P) (.node (o136 P) (.node (o168 P) (.node (o245 P) (.node (o398 P) .nil .nil) .nil) (.node (o328 P) (.node (o469 P) .nil .nil) .nil)) (.node (o205 P) (.node (o290 P) (.node (o435 P) .nil .nil) .nil) (.node (o363 P) (.node (o508 P) .nil .nil) .nil))) (.node (o152 P) (.node (o184 P) (.node (o271 P) (.node (o416 P) .nil .nil) .nil) (.node (o344 P) (.node (o487 P) .nil .nil) .nil)) (.node (o226 P) (.node (o311 P) (.node (o452 P) .nil .nil) .nil) (.node (o382 P) (.node (o525 P) .nil .nil) .nil))))) (.node (o3 P) (.node (o107 P) (.node (o132 P) (.node (o164 P) (.node (o241 P) (.node (o394 P) .nil .nil) (.node (o539 P) .nil .nil)) (.node (o324 P) (.node (o465 P) .nil .nil) .nil)) (.node (o196 P) (.node (o285 P) (.node (o431 P) .nil .nil) .nil) (.node (o359 P) (.node (o500 P) .nil .nil) .nil))) (.node (o148 P) (.node (o180 P) (.node (o267 P) (.node (o412 P) .nil .nil) .nil) (.node (o340 P) (.node (o483 P) .nil .nil) .nil)) (.node (o222 P) (.node (o305 P) (.node (o447 P) .nil .nil) .nil) (.node (o378 P) (.node (o521 P) .nil .nil) .nil)))) (.node (o124 P) (.node (o140 P) (.node (o172 P) (.node (o254 P) (.node (o402 P) .nil .nil) .nil) (.node (o332 P) (.node (o473 P) .nil .nil) .nil)) (.node (o211 P) (.node (o297 P) (.node (o439 P) .nil .nil) .nil) (.node (o369 P) (.node (o512 P) .nil .nil) .nil))) (.node (o156 P) (.node (o188 P) (.node (o275 P) (.node (o420 P) .nil .nil) .nil) (.node (o349 P) (.node (o491 P) .nil .nil) .nil)) (.node (o231 P) (.node (o316 P) (.node (o456 P) .nil .nil) .nil) (.node (o386 P) (.node (o529 P) .nil .nil) .nil))))))) (.node (PySem.W.boot_o_2 P) (.node (PySem.W.boot_o_4 P) (.node (PySem.W.boot_o_8 P) (.node (o94 P) (.node (o127 P) (.node (o159 P) (.node (o234 P) (.node (o389 P) .nil .nil) (.node (o534 P) .nil .nil)) (.node (o319 P) (.node (o460 P) .nil .nil) .nil)) (.node (o191 P) (.node (o280 P) (.node (o424 P) .nil .nil) .nil) (.node (o352 P) (.node (o494 P) .nil .nil) .nil))) (.node (o143 P) (.node (o175 P) (.node (o257 P) (.node (o406 P) .nil .nil) .nil) (.node (o335 P) (.node (o476 P) .nil .nil) .nil)) (.node (o214 P) (.node (o300 P) (.node (o442 P) .nil .nil) .nil) (.node (o373 P) (.node (o516 P) .nil .nil) .nil)))) (.node (o111 P) (.node (o135 P) (.node (o167 P) (.node (o244 P) (.node (o397 P) .nil .nil) .nil) (.node (o327 P) (.node (o468 P) .nil .nil) .nil)) (.node (o204 P) (.node (o289 P) (.node (o434 P) .nil .nil) .nil) (.node (o362 P) (.node (o503 P) .nil .nil) .nil))) (.node (o151 P) (.node (o183 P) (.node (o270 P) (.node (o415 P) .nil .nil) .nil) (.node (o343 P) (.node (o486 P) .nil .nil) .nil)) (.node (o225 P) (.node (o308 P) (.node (o451 P) .nil .nil) .nil) (.node (o381 P) (.node (o524 P) .nil .nil) .nil))))) (.node (o91 P) (.node (o106 P) (.node (o131 P) (.node (o163 P) (.node (o240 P) (.node (o393 P) .nil .nil) (.node (o538 P) .nil .nil)) (.node (o323 P) (.node (o464 P) .nil .nil) .nil)) (.node (o195 P) (.node (o284 P) (.node (o430 P) .nil .nil) .nil) (.node (o356 P) (.node (o499 P) .nil .nil) .nil))) (.node (o147 P) (.node (o179 P) (.node (o265 P) (.node (o411 P) .nil .nil) .nil) (.node (o339 P) (.node (o482 P) .nil .nil) .nil)) (.node (o218 P) (.node (o304 P) (.node (o446 P) .nil .nil) .nil) (.node (o377 P) (.node (o520 P) .nil .nil) .nil)))) (.node (o123 P) (.node (o139 P) (.node (o171 P) (.node (o253 P) (.node (o401 P) .nil .nil) .nil) (.node (o331 P) (.node (o472 P) .nil .nil) .nil)) (.node (o210 P) (.node (o296 P) (.node (o438 P) .nil .nil) .nil) (.node (o368 P) (.node (o511 P) .nil .nil) .nil))) (.node (o155 P) (.node (o187 P) (.node (o274 P) (.node (o419 P) .nil .nil) .nil) (.node (o348 P) (.node (o490 P) .nil .nil) .nil)) (.node (o230 P) (.node (o314 P) (.node (o455 P) .nil .nil) .nil) (.node (o385 P) (.node (o528 P) .nil .nil) .nil)))))) (.node (PySem.W.boot_o_6 P) (.node (PySem.W.boot_o_10 P) (.node (o104 P) (.node (o129 P) (.node (o161 P) (.node (o236 P) (.node (o391 P) .nil .nil) (.node (o536 P) .nil .nil)) (.node (o321 P) (.node (o462 P) .nil .nil) .nil)) (.node (o193 P) (.node (o282 P) (.node (o426 P) .nil .nil) .nil) (.node (o354 P) (.node (o497 P) .nil .nil) .nil))) (.node (o145 P) (.node (o177 P) (.node (o263 P) (.node (o409 P) .nil .nil) .nil) (.node (o337 P) (.node (o478 P) .nil .nil) .nil)) (.node (o216 P) (.node (o302 P) (.node (o444 P) .nil .nil) .nil) (.node (o375 P) (.node (o518 P) .nil .nil) .nil)))) (.node (o119 P) (.node (o137 P) (.node (o169 P) (.node (o251 P) (.node (o399 P) .nil .nil) .nil) (.node (o329 P) (.node (o470 P) .nil .nil) .nil)) (.node (o206 P) (.node (o291 P) (.node (o436 P) .nil .nil) .nil) (.node (o364 P) (.node (o509 P) .nil .nil) .nil))) (.node (o153 P) (.node (o185 P) (.node (o272 P) (.node (o417 P) .nil .nil) .nil) (.node (o345 P) (.node (o488 P) .nil .nil) .nil)) (.node (o227 P) (.node (o312 P) (.node (o453 P) .nil .nil) .nil) (.node (o383 P) (.node (o526 P) .nil .nil) .nil))))) (.node (o7 P) (.node (o108 P) (.node (o133 P) (.node (o165 P) (.node (o242 P) (.node (o395 P) .nil .nil) (.node (o540 P) .nil .nil)) (.node (o325 P) (.node (o466 P) .nil .nil) .nil)) (.node (o197 P) (.node (o286 P) (.node (o432 P) .nil .nil) .nil) (.node (o360 P) (.node (o501 P) .nil .nil) .nil))) (.node (o149 P) (.node (o181 P) (.node (o268 P) (.node (o413 P) .nil .nil) .nil) (.node (o341 P) (.node (o484 P) .nil .nil) .nil)) (.node (o223 P) (.node (o306 P) (.node (o448 P) .nil .nil) .nil) (.node (o379 P) (.node (o522 P) .nil .nil) .nil)))) (.node (o125 P) (.node (o141 P) (.node (o173 P) (.node (o255 P) (.node (o403 P) .nil .nil) .nil) (.node (o333 P) (.node (o474 P) .nil .nil) .nil)) (.node (o212 P) (.node (o298 P) (.node (o440 P) .nil .nil) .nil) (.node (o370 P) (.node (o513 P) .nil .nil) .nil))) (.node (o157 P) (.node (o189 P) (.node (o276 P) (.node (o421 P) .nil .nil) .nil) (.node (o350 P) (.node (o492 P) .nil .nil) .nil)) (.node (o232 P) (.node (o317 P) (.node (o457 P) .nil .nil) .nil) (.node (o387 P) (.node (o532 P) .nil .nil) .nil))))))))
noncomputable def St0 (w:PySem.World)(os:PySem.OsState):PySem.W.SharedT:=PySem.W.SharedT.mk (T0 w.params) 391 (PySem.Life.mk [] [] [] 0 [] [] Bool.false ⟨[]⟩ [] 0 Bool.false Bool.false Bool.false (Int.ofNat 0) [(Int.ofNat 2000),(Int.ofNat 10),(Int.ofNat 10)] Bool.false 0 Bool.true [] [] 0 Bool.false) (Array.mk []) (PySem.Drawn.mk 0 0 0 0) 728 os
noncomputable def Tf:PySem.Params→PySem.W.BT:=fun P=>(.node (PySem.W.boot_o_0 P) (.node (PySem.W.boot_o_1 P) (.node (o24 P) (.node (PySem.W.boot_o_7 P) (.node (o92 P) (.node (o126 P) (.node (o158 P) (.node (o233 P) (.node (o388 P) .nil .nil) (.node (o533 P) .nil .nil)) (.node (o318 P) (.node (o459 P) .nil .nil) .nil)) (.node (o190 P) (.node (o279 P) (.node (o422 P) .nil .nil) .nil) (.node (o351 P) (.node (o493 P) .nil .nil) .nil))) (.node (o142 P) (.node (o174 P) (.node (o256 P) (.node (o405 P) .nil .nil) .nil) (.node (o334 P) (.node (o475 P) .nil .nil) .nil)) (.node (o213 P) (.node (o299 P) (.node (o441 P) .nil .nil) .nil) (.node (o371 P) (.node (o514 P) .nil .nil) .nil)))) (.node (o109 P) (.node (o134 P) (.node (o166 P) (.node (o243 P) (.node (o396 P) .nil .nil) .nil) (.node (o326 P) (.node (o467 P) .nil .nil) .nil)) (.node (o203 P) (.node (o287 P) (.node (o433 P) .nil .nil) .nil) (.node (o361 P) (.node (o502 P) .nil .nil) .nil))) (.node (o150 P) (.node (o182 P) (.node (o269 P) (.node (o414 P) .nil .nil) .nil) (.node (o342 P) (.node (o485 P) .nil .nil) .nil)) (.node (o224 P) (.node (o307 P) (.node (o449 P) .nil .nil) .nil) (.node (o380 P) (.node (o523 P) .nil .nil) .nil))))) (.node (o0 P) (.node (o105 P) (.node (o130 P) (.node (o162 P) (.node (o239 P) (.node (o392 P) .nil .nil) (.node (o537 P) .nil .nil)) (.node (o322 P) (.node (o463 P) .nil .nil) .nil)) (.node (o194 P) (.node (o283 P) (.node (o429 P) .nil .nil) .nil) (.node (o355 P) (.node (o498 P) .nil .nil) .nil))) (.node (o146 P) (.node (o178 P) (.node (o264 P) (.node (o410 P) .nil .nil) .nil) (.node (o338 P) (.node (o479 P) .nil .nil) .nil)) (.node (o217 P) (.node (o303 P) (.node (o445 P) .nil .nil) .nil) (.node (o376 P) (.node (o519 P) .nil .nil) .nil)))) (.node (o121 P) (.node (o138 P) (.node (o170 P) (.node (o252 P) (.node (o400 P) .nil .nil) .nil) (.node (o330 P) (.node (o471 P) .nil .nil) .nil)) (.node (o209 P) (.node (o295 P) (.node (o437 P) .nil .nil) .nil) (.node (o365 P) (.node (o510 P) .nil .nil) .nil))) (.node (o154 P) (.node (o186 P) (.node (o273 P) (.node (o418 P) .nil .nil) .nil) (.node (o347 P) (.node (o489 P) .nil .nil) .nil)) (.node (o228 P) (.node (o313 P) (.node (o454 P) .nil .nil) .nil) (.node (o384 P) (.node (o527 P) .nil .nil) .nil)))))) (.node (PySem.W.boot_o_5 P) (.node (PySem.W.boot_o_9 P) (.node (o98 P) (.node (o128 P) (.node (o160 P) (.node (o235 P) (.node (o390 P) .nil .nil) (.node (o535 P) .nil .nil)) (.node (o320 P) (.node (o461 P) .nil .nil) .nil)) (.node (o192 P) (.node (o281 P) (.node (o425 P) .nil .nil) .nil) (.node (o353 P) (.node (o495 P) .nil .nil) .nil))) (.node (o144 P) (.node (o176 P) (.node (o262 P) (.node (o407 P) .nil .nil) .nil) (.node (o336 P) (.node (o477 P) .nil .nil) .nil)) (.node (o215 P) (.node (o301 P) (.node (o443 P) .nil .nil) .nil) (.node (o374 P) (.node (o517 P) .nil .nil) .nil)))) (.node (o116 P) (.node (o136 P) (.node (o168 P) (.node (o245 P) (.node (o398 P) .nil .nil) .nil) (.node (o328 P) (.node (o469 P) .nil .nil) .nil)) (.node (o205 P) (.node (o290 P) (.node (o435 P) .nil .nil) .nil) (.node (o363 P) (.node (o508 P) .nil .nil) .nil))) (.node (o152 P) (.node (o184 P) (.node (o271 P) (.node (o416 P) .nil .nil) .nil) (.node (o344 P) (.node (o487 P) .nil .nil) .nil)) (.node (o226 P) (.node (o311 P) (.node (o452 P) .nil .nil) .nil) (.node (o382 P) (.node (o525 P) .nil .nil) .nil))))) (.node (o3 P) (.node (o107 P) (.node (o132 P) (.node (o164 P) (.node (o241 P) (.node (o394 P) .nil .nil) (.node (o539 P) .nil .nil)) (.node (o324 P) (.node (o465 P) .nil .nil) .nil)) (.node (o196 P) (.node (o285 P) (.node (o431 P) .nil .nil) .nil) (.node (o359 P) (.node (o500 P) .nil .nil) .nil))) (.node (o148 P) (.node (o180 P) (.node (o267 P) (.node (o412 P) .nil .nil) .nil) (.node (o340 P) (.node (o483 P) .nil .nil) .nil)) (.node (o222 P) (.node (o305 P) (.node (o447 P) .nil .nil) .nil) (.node (o378 P) (.node (o521 P) .nil .nil) .nil)))) (.node (o124 P) (.node (o140 P) (.node (o172 P) (.node (o254 P) (.node (o402 P) .nil .nil) .nil) (.node (o332 P) (.node (o473 P) .nil .nil) .nil)) (.node (o211 P) (.node (o297 P) (.node (o439 P) .nil .nil) .nil) (.node (o369 P) (.node (o512 P) .nil .nil) .nil))) (.node (o156 P) (.node (o188 P) (.node (o275 P) (.node (o420 P) .nil .nil) .nil) (.node (o349 P) (.node (o491 P) .nil .nil) .nil)) (.node (o231 P) (.node (o316 P) (.node (o456 P) .nil .nil) .nil) (.node (o386 P) (.node (o529 P) .nil .nil) .nil))))))) (.node (PySem.W.boot_o_2 P) (.node (PySem.W.boot_o_4 P) (.node (PySem.W.boot_o_8 P) (.node (o94 P) (.node (o127 P) (.node (o159 P) (.node (o234 P) (.node (o389 P) .nil .nil) (.node (o534 P) .nil .nil)) (.node (o319 P) (.node (o460 P) .nil .nil) .nil)) (.node (o191 P) (.node (o280 P) (.node (o424 P) .nil .nil) .nil) (.node (o352 P) (.node (o494 P) .nil .nil) .nil))) (.node (o143 P) (.node (o175 P) (.node (o257 P) (.node (o406 P) .nil .nil) .nil) (.node (o335 P) (.node (o476 P) .nil .nil) .nil)) (.node (o214 P) (.node (o300 P) (.node (o442 P) .nil .nil) .nil) (.node (o373 P) (.node (o516 P) .nil .nil) .nil)))) (.node (o111 P) (.node (o135 P) (.node (o167 P) (.node (o244 P) (.node (o397 P) .nil .nil) .nil) (.node (o327 P) (.node (o468 P) .nil .nil) .nil)) (.node (o204 P) (.node (o289 P) (.node (o434 P) .nil .nil) .nil) (.node (o362 P) (.node (o503 P) .nil .nil) .nil))) (.node (o151 P) (.node (o183 P) (.node (o270 P) (.node (o415 P) .nil .nil) .nil) (.node (o343 P) (.node (o486 P) .nil .nil) .nil)) (.node (o225 P) (.node (o308 P) (.node (o451 P) .nil .nil) .nil) (.node (o381 P) (.node (o524 P) .nil .nil) .nil))))) (.node (o91 P) (.node (o106 P) (.node (o131 P) (.node (o163 P) (.node (o240 P) (.node (o393 P) .nil .nil) (.node (o538 P) .nil .nil)) (.node (o323 P) (.node (o464 P) .nil .nil) .nil)) (.node (o195 P) (.node (o284 P) (.node (o430 P) .nil .nil) .nil) (.node (o356 P) (.node (o499 P) .nil .nil) .nil))) (.node (o147 P) (.node (o179 P) (.node (o265 P) (.node (o411 P) .nil .nil) .nil) (.node (o339 P) (.node (o482 P) .nil .nil) .nil)) (.node (o218 P) (.node (o304 P) (.node (o446 P) .nil .nil) .nil) (.node (o377 P) (.node (o520 P) .nil .nil) .nil)))) (.node (o123 P) (.node (o139 P) (.node (o171 P) (.node (o253 P) (.node (o401 P) .nil .nil) .nil) (.node (o331 P) (.node (o472 P) .nil .nil) .nil)) (.node (o210 P) (.node (o296 P) (.node (o438 P) .nil .nil) .nil) (.node (o368 P) (.node (o511 P) .nil .nil) .nil))) (.node (o155 P) (.node (o187 P) (.node (o274 P) (.node (o419 P) .nil .nil) .nil) (.node (o348 P) (.node (o490 P) .nil .nil) .nil)) (.node (o230 P) (.node (o314 P) (.node (o455 P) .nil .nil) .nil) (.node (o385 P) (.node (o528 P) .nil .nil) .nil)))))) (.node (PySem.W.boot_o_6 P) (.node (PySem.W.boot_o_10 P) (.node (o104 P) (.node (o129 P) (.node (o161 P) (.node (o236 P) (.node (o391 P) .nil .nil) (.node (o536 P) .nil .nil)) (.node (o321 P) (.node (o462 P) .nil .nil) .nil)) (.node (o193 P) (.node (o282 P) (.node (o426 P) .nil .nil) .nil) (.node (o354 P) (.node (o497 P) .nil .nil) .nil))) (.node (o145 P) (.node (o177 P) (.node (o263 P) (.node (o409 P) .nil .nil) .nil) (.node (o337 P) (.node (o478 P) .nil .nil) .nil)) (.node (o216 P) (.node (o302 P) (.node (o444 P) .nil .nil) .nil) (.node (o375 P) (.node (o518 P) .nil .nil) .nil)))) (.node (o119 P) (.node (o137 P) (.node (o169 P) (.node (o251 P) (.node (o399 P) .nil .nil) .nil) (.node (o329 P) (.node (o470 P) .nil .nil) .nil)) (.node (o206 P) (.node (o291 P) (.node (o436 P) .nil .nil) .nil) (.node (o364 P) (.node (o509 P) .nil .nil) .nil))) (.node (o153 P) (.node (o185 P) (.node (o272 P) (.node (o417 P) .nil .nil) .nil) (.node (o345 P) (.node (o488 P) .nil .nil) .nil)) (.node (o227 P) (.node (o312 P) (.node (o453 P) .nil .nil) .nil) (.node (o383 P) (.node (o526 P) .nil .nil) .nil))))) (.node (o7 P) (.node (o108 P) (.node (o133 P) (.node (o165 P) (.node (o242 P) (.node (o395 P) .nil .nil) (.node (o540 P) .nil .nil)) (.node (o325 P) (.node (o466 P) .nil .nil) .nil)) (.node (o197 P) (.node (o286 P) (.node (o432 P) .nil .nil) .nil) (.node (o360 P) (.node (o501 P) .nil .nil) .nil))) (.node (o149 P) (.node (o181 P) (.node (o268 P) (.node (o413 P) .nil .nil) .nil) (.node (o341 P) (.node (o484 P) .nil .nil) .nil)) (.node (o223 P) (.node (o306 P) (.node (o448 P) .nil .nil) .nil) (.node (o379 P) (.node (o522 P) .nil .nil) .nil)))) (.node (o125 P) (.node (o141 P) (.node (o173 P) (.node (o255 P) (.node (o403 P) .nil .nil) .nil) (.node (o333 P) (.node (o474 P) .nil .nil) .nil)) (.node (o212 P) (.node (o298 P) (.node (o440 P) .nil .nil) .nil) (.node (o370 P) (.node (o513 P) .nil .nil) .nil))) (.node (o157 P) (.node (o189 P) (.node (o276 P) (.node (o421 P) .nil .nil) .nil) (.node (o350 P) (.node (o492 P) .nil .nil) .nil)) (.node (o232 P) (.node (o317 P) (.node (o457 P) .nil .nil) .nil) (.node (o387 P) (.node (o532 P) .nil .nil) .nil))))))))
noncomputable def Stf (w:PySem.World)(os:PySem.OsState):PySem.W.SharedT:=PySem.W.SharedT.mk (Tf w.params) 391 (PySem.Life.mk [] [] [] 0 [] [] Bool.false ⟨[]⟩ [] 0 Bool.false Bool.false Bool.false (Int.ofNat 0) [(Int.ofNat 2000),(Int.ofNat 10),(Int.ofNat 10)] Bool.false 0 Bool.true [] [] 0 Bool.false) (Array.mk []) (PySem.Drawn.mk 0 0 0 0) 728 os
noncomputable def KF:PySem.Params→PySem.W.Frag:=fun P=>[(0,PySem.W.boot_o_0 P),(1,PySem.W.boot_o_1 P),(2,PySem.W.boot_o_2 P),(3,o24 P),(4,PySem.W.boot_o_4 P),(5,PySem.W.boot_o_5 P),(6,PySem.W.boot_o_6 P),(7,PySem.W.boot_o_7 P),(8,PySem.W.boot_o_8 P),(9,PySem.W.boot_o_9 P),(10,PySem.W.boot_o_10 P),(11,o0 P),(12,o91 P),(13,o3 P),(14,o7 P),(15,o92 P),(22,o108 P),(23,o109 P),(24,o111 P),(25,o116 P),(28,o123 P),(35,o130 P),(36,o131 P),(37,o132 P),(40,o135 P),(47,o142 P),(48,o143 P),(49,o144 P),(52,o147 P),(59,o154 P),(60,o155 P),(61,o156 P),(64,o159 P),(71,o166 P),(72,o167 P),(73,o168 P),(76,o171 P),(83,o178 P),(84,o179 P),(85,o180 P),(88,o183 P),(95,o190 P),(96,o191 P),(97,o192 P),(100,o195 P),(101,o196 P),(102,o197 P),(103,o203 P),(104,o204 P),(105,o205 P),(106,o206 P),(107,o209 P),(108,o210 P),(109,o211 P),(110,o212 P),(111,o213 P),(112,o214 P),(113,o215 P),(114,o216 P),(115,o217 P),(116,o218 P),(117,o222 P),(118,o223 P),(119,o224 P),(120,o225 P),(121,o226 P),(122,o227 P),(123,o228 P),(124,o230 P),(125,o231 P),(126,o232 P),(127,o233 P),(128,o234 P),(129,o235 P),(130,o236 P),(131,o239 P),(132,o240 P),(133,o241 P),(134,o242 P),(135,o243 P),(136,o244 P),(137,o245 P),(138,o251 P),(139,o252 P),(140,o253 P),(141,o254 P),(142,o255 P),(143,o256 P),(144,o257 P),(145,o262 P),(146,o263 P),(147,o264 P),(148,o265 P),(149,o267 P),(150,o268 P),(151,o269 P),(152,o270 P),(153,o271 P),(154,o272 P),(155,o273 P),(156,o274 P),(157,o275 P),(158,o276 P),(159,o279 P),(160,o280 P),(161,o281 P),(162,o282 P),(163,o283 P),(164,o284 P),(165,o285 P),(166,o286 P),(167,o287 P),(168,o289 P),(169,o290 P),(170,o291 P),(171,o295 P),(172,o296 P),(173,o297 P),(174,o298 P),(175,o299 P),(176,o300 P),(177,o301 P),(178,o302 P),(179,o303 P),(180,o304 P),(181,o305 P),(182,o306 P),(183,o307 P),(184,o308 P),(185,o311 P),(186,o312 P),(187,o313 P),(188,o314 P),(189,o316 P),(190,o317 P),(191,o318 P),(192,o319 P),(193,o320 P),(194,o321 P),(195,o322 P),(196,o323 P),(197,o324 P),(198,o325 P),(199,o326 P),(200,o327 P),(201,o328 P),(202,o329 P),(203,o330 P),(204,o331 P),(205,o332 P),(206,o333 P),(207,o334 P),(208,o335 P),(209,o336 P),(211,o338 P),(212,o339 P),(213,o340 P),(214,o341 P),(215,o342 P),(216,o343 P),(217,o344 P),(218,o345 P),(219,o347 P),(220,o348 P),(221,o349 P),(222,o350 P),(223,o351 P),(224,o352 P),(225,o353 P),(226,o354 P),(227,o355 P),(228,o356 P),(229,o359 P),(230,o360 P),(231,o361 P),(232,o362 P),(233,o363 P),(234,o364 P),(235,o365 P),(236,o368 P),(237,o369 P),(238,o370 P),(239,o371 P),(240,o373 P),(241,o374 P),(242,o375 P),(243,o376 P),(244,o377 P),(245,o378 P),(246,o379 P),(247,o380 P),(248,o381 P),(249,o382 P),(250,o383 P),(251,o384 P),(252,o385 P),(253,o386 P),(254,o387 P),(255,o388 P),(256,o389 P),(257,o390 P),(258,o391 P),(259,o392 P),(260,o393 P),(261,o394 P),(262,o395 P),(263,o396 P),(264,o397 P),(265,o398 P),(266,o399 P),(267,o400 P),(268,o401 P),(269,o402 P),(270,o403 P),(271,o405 P),(272,o406 P),(273,o407 P),(274,o409 P),(275,o410 P),(276,o411 P),(277,o412 P),(278,o413 P),(279,o414 P),(280,o415 P),(281,o416 P),(282,o417 P),(283,o418 P),(284,o419 P),(285,o420 P),(286,o421 P),(287,o422 P),(288,o424 P),(289,o425 P),(290,o426 P),(291,o429 P),(292,o430 P),(293,o431 P),(294,o432 P),(295,o433 P),(296,o434 P),(297,o435 P),(298,o436 P),(299,o437 P),(300,o438 P),(301,o439 P),(302,o440 P),(303,o441 P),(304,o442 P),(305,o443 P),(306,o444 P),(307,o445 P),(308,o446 P),(309,o447 P),(310,o448 P),(311,o449 P),(312,o451 P),(313,o452 P),(314,o453 P),(315,o454 P),(316,o455 P),(317,o456 P),(318,o457 P),(319,o459 P),(320,o460 P),(321,o461 P),(322,o462 P),(323,o463 P),(324,o464 P),(325,o465 P),(326,o466 P),(327,o467 P),(328,o468 P),(329,o469 P),(330,o470 P),(331,o471 P),(332,o472 P),(333,o473 P),(334,o474 P),(335,o475 P),(336,o476 P),(337,o477 P),(338,o478 P),(339,o479 P),(340,o482 P),(341,o483 P),(342,o484 P),(343,o485 P),(344,o486 P),(345,o487 P),(346,o488 P),(347,o489 P),(348,o490 P),(349,o491 P),(350,o492 P),(351,o493 P),(352,o494 P),(353,o495 P),(354,o497 P),(355,o498 P),(356,o499 P),(357,o500 P),(358,o501 P),(359,o502 P),(360,o503 P),(361,o508 P),(362,o509 P),(363,o510 P),(364,o511 P),(365,o512 P),(366,o513 P),(367,o514 P),(368,o516 P),(369,o517 P),(370,o518 P),(371,o519 P),(372,o520 P),(373,o521 P),(374,o522 P),(375,o523 P),(376,o524 P),(377,o525 P),(378,o526 P),(379,o527 P),(380,o528 P),(381,o529 P),(382,o532 P),(383,o533 P),(384,o534 P),(385,o535 P),(386,o536 P),(387,o537 P),(388,o538 P),(389,o539 P),(390,o540 P)]
abbrev AS:List PySem.Addr:=[0,1,2,3,4,5,6,7,8,9,10,11,12,13,14,15,22,23,24,25,28,35,36,37,40,47,48,49,52,59,60,61,64,71,72,73,76,83,84,85,88,95,96,97,100,101,102,103,104,105,106,107,108,109,110,111,112,113,114,115,116,117,118,119,120,121,122,123,124,125,126,127,128,129,130,131,132,133,134,135,136,137,138,139,140,141,142,143,144,145,146,147,148,149,150,151,152,153,154,155,156,157,158,159,160,161,162,163,164,165,166,167,168,169,170,171,172,173,174,175,176,177,178,179,180,181,182,183,184,185,186,187,188,189,190,191,192,193,194,195,196,197,198,199,200,201,202,203,204,205,206,207,208,209,211,212,213,214,215,216,217,218,219,220,221,222,223,224,225,226,227,228,229,230,231,232,233,234,235,236,237,238,239,240,241,242,243,244,245,246,247,248,249,250,251,252,253,254,255,256,257,258,259,260,261,262,263,264,265,266,267,268,269,270,271,272,273,274,275,276,277,278,279,280,281,282,283,284,285,286,287,288,289,290,291,292,293,294,295,296,297,298,299,300,301,302,303,304,305,306,307,308,309,310,311,312,313,314,315,316,317,318,319,320,321,322,323,324,325,326,327,328,329,330,331,332,333,334,335,336,337,338,339,340,341,342,343,344,345,346,347,348,349,350,351,352,353,354,355,356,357,358,359,360,361,362,363,364,365,366,367,368,369,370,371,372,373,374,375,376,377,378,379,380,381,382,383,384,385,386,387,388,389,390]
abbrev keep:List Nat:=[1,2,3,4,5,6,7,9,10,11,12,13,14,15,17,18,19,21,22,23,25,26,27,28,29,30,32,33,34,36,37,38,39,40,41,43,44,45,47,48,49,50,51,52,53,54,56,57,58,59,60,61,62,63]
abbrev loose:List PySem.Str:=[]
noncomputable abbrev sts0:List PySem.Stmt:=((behindTheImports TW).drop 0).take 64
abbrev pos0:PySem.Pos:=(PySem.Pos.mk 315 0 343 73)
set_option maxRecDepth 100000
theorem pre (w:World):(fun os=>topGo treeTable TW w m0 ann kA ⟨boot_heap w.params,Array.mk [],boot_drawn,boot_toks,os⟩ (topStub TW))=fun os=>some ((Sta w os).abs,⟨denote treeTable cE,cE,posA,Bs⟩):=by
 rw[PySem.W.Fast.te15667345088766844465,PySem.W.Fast.te14364793385576792824,PySem.W.Fast.te11892475500146522536]
 kernel_rfl
theorem blk (w:World):(fun os=>segRunT treeTable TW w m0 ann 1 (kB+1) (Sta w os) (blockOf (behindTheImports TW) env cE posA Bs))=fun os=>some (Flow.next,Stb w os,cE,posB):=by
 rw[PySem.W.Fast.te10110043849684766642,PySem.W.Fast.te14364793385576792824]
 kernel_rfl
theorem pc0 (w:World):(fun os=>segRunT treeTable TW w m0 ann 1 2942 (Stb w os) (piecesOf sts0 env cE posB Bs))=fun os=>some (Flow.next,St0 w os,cE,pos0):=by
 rw[PySem.W.Fast.te10110043849684766642,PySem.W.Fast.te14364793385576792824]
 kernel_rfl
theorem fin (w:World):(fun os=>topRun treeTable TW w m0 ann (kF+1) (St0 w os).abs ⟨doneF Flow.next,cE,pos0,Bs⟩)=fun os=>some (Stf w os).abs:=by
 rw[PySem.W.Fast.te14082659384304107361,PySem.W.Fast.te14364793385576792824]
 kernel_rfl
theorem cut:behindTheImports TW=sts0 ++ []:=by kernel_rfl
theorem rest (w:World)(os:OsState):topRun treeTable TW w m0 ann (2942+(kF+1)) (Stb w os).abs (restOf (behindTheImports TW) env cE posB Bs)=some (Stf w os).abs:=by
 have h:topRun treeTable TW w m0 ann (2942+(kF+1)) (Stb w os).abs (restOf (sts0 ++ []) env cE posB Bs)=some (Stf w os).abs:=piece_app (segRun_of (congrFun (pc0 w) os)) (piece_nil (congrFun (fin w) os))
 exact (congrArg (fun b=>topRun treeTable TW w m0 ann (2942+(kF+1)) (Stb w os).abs (restOf b env cE posB Bs)) cut).trans h
theorem run (w:World)(os:OsState):topRun treeTable TW w m0 ann (kA+(kB+1+(2942+(kF+1)))) ⟨boot_heap w.params,Array.mk [],boot_drawn,boot_toks,os⟩ (topStub TW)=some (Stf w os).abs:=go_top (congrFun (pre w) os) (piece_block (segRun_of (congrFun (blk w) os)) (rest w os))
theorem opn:opening TW=plainProg TW.main.scope.names:=by
 kernel_rfl
theorem fence (s:Shared):fenceModules? TW s=some s:=by
 try rw[PySem.W.Fast.te14289696077712309145]
 kernel_rfl
theorem size (w:World):((boot_heap w.params).isNs mainGlobals && (Array.mk []:Array GenState).size == 0,(boot_heap w.params).objs.size,(boot_heap w.params).nsMap mainGlobals "__annotations__")=(true,m0,ann):=by
 try rw[PySem.W.Fast.te8920871248978507458]
 kernel_rfl
noncomputable abbrev Q:PySem.Program:=view TW keep
noncomputable def Hf (P:Params):Heap:=absHeap (Tf P) 391 (PySem.Life.mk [] [] [] 0 [] [] Bool.false ⟨[]⟩ [] 0 Bool.false Bool.false Bool.false (Int.ofNat 0) [(Int.ofNat 2000),(Int.ofNat 10),(Int.ofNat 10)] Bool.false 0 Bool.true [] [] 0 Bool.false)
noncomputable abbrev Xt (s:Shared):Bool:=xlAt Q [] s && recOk (RowW.records (OpenRow.toRowW (OpenLaw.row PySem.Challenge.rw_evenhub_k95_whole_settings_as_sums))) s
theorem lk0 (w:World)(os:OsState):(staticsOk (importedModules TW.main.body) (boot_heap w.params) (Hf w.params) && namesBound TW (Hf w.params) && gensDone ⟨Hf w.params,(Array.mk []),(PySem.Drawn.mk 0 0 0 0),728,os⟩ && laidKept (boot_heap w.params) (Hf w.params))=true:=by
 try rw[PySem.W.Fast.te5923862056798008813]
 try rw[PySem.W.Fast.te5160383126252970620]
 try rw[PySem.W.Fast.te3399658132070893891]
 try rw[PySem.W.Fast.te5991557255702980513]
 try rw[PySem.W.Fast.te10880121769531294198]
 try rw[PySem.W.Fast.te821141287760084731]
 try rw[PySem.W.Fast.te7409074990110511671]
 try rw[PySem.W.Fast.te13664370479719496447]
 try rw[PySem.W.Fast.te14722251495701143533]
 try rw[PySem.W.Fast.te10994771534591457954]
 try rw[PySem.W.Fast.te479339242167458305]
 try rw[PySem.W.Fast.te16090120013241838585]
 try rw[PySem.W.Fast.te3247288618530077131]
 try rw[PySem.W.Fast.te2386780881361962483]
 try rw[PySem.W.Fast.te11698064438423848299]
 try rw[PySem.W.Fast.te7317090234206586261]
 try rw[PySem.W.Fast.te7369524293546568484]
 kernel_rfl
theorem lk1 (w:World)(os:OsState):openSeen Q loose (importedModules TW.main.body) Xt true ⟨Hf w.params,(Array.mk []),(PySem.Drawn.mk 0 0 0 0),728,os⟩=openGood Q loose:=by
 unfold openSeen openGood
 refine looks_pair ?_ (looks_pair ?_ (looks_pair ?_ (looks_pair ?_ (looks_pair ?_ (looks_pair ?_ (looks_pair ?_ (looks_pair ?_ ?_)))))))
 ·try rw[PySem.W.Fast.te5923862056798008813]
  try rw[PySem.W.Fast.te5160383126252970620]
  try rw[PySem.W.Fast.te3399658132070893891]
  try rw[PySem.W.Fast.te5991557255702980513]
  try rw[PySem.W.Fast.te10880121769531294198]
  try rw[PySem.W.Fast.te821141287760084731]
  try rw[PySem.W.Fast.te7409074990110511671]
  try rw[PySem.W.Fast.te13664370479719496447]
  try rw[PySem.W.Fast.te14722251495701143533]
  try rw[PySem.W.Fast.te10994771534591457954]
  try rw[PySem.W.Fast.te479339242167458305]
  try rw[PySem.W.Fast.te16090120013241838585]
  try rw[PySem.W.Fast.te3247288618530077131]
  try rw[PySem.W.Fast.te2386780881361962483]
  try rw[PySem.W.Fast.te11698064438423848299]
  try rw[PySem.W.Fast.te7317090234206586261]
  try rw[PySem.W.Fast.te7369524293546568484]
  kernel_rfl
 ·try rw[PySem.W.Fast.te5923862056798008813]
  try rw[PySem.W.Fast.te5160383126252970620]
  try rw[PySem.W.Fast.te3399658132070893891]
  try rw[PySem.W.Fast.te5991557255702980513]
  try rw[PySem.W.Fast.te10880121769531294198]
  try rw[PySem.W.Fast.te821141287760084731]
  try rw[PySem.W.Fast.te7409074990110511671]
  try rw[PySem.W.Fast.te13664370479719496447]
  try rw[PySem.W.Fast.te14722251495701143533]
  try rw[PySem.W.Fast.te10994771534591457954]
  try rw[PySem.W.Fast.te479339242167458305]
  try rw[PySem.W.Fast.te16090120013241838585]
  try rw[PySem.W.Fast.te3247288618530077131]
  try rw[PySem.W.Fast.te2386780881361962483]
  try rw[PySem.W.Fast.te11698064438423848299]
  try rw[PySem.W.Fast.te7317090234206586261]
  try rw[PySem.W.Fast.te7369524293546568484]
  kernel_rfl
 ·try rw[PySem.W.Fast.te5923862056798008813]
  try rw[PySem.W.Fast.te5160383126252970620]
  try rw[PySem.W.Fast.te3399658132070893891]
  try rw[PySem.W.Fast.te5991557255702980513]
  try rw[PySem.W.Fast.te10880121769531294198]
  try rw[PySem.W.Fast.te821141287760084731]
  try rw[PySem.W.Fast.te7409074990110511671]
  try rw[PySem.W.Fast.te13664370479719496447]
  try rw[PySem.W.Fast.te14722251495701143533]
  try rw[PySem.W.Fast.te10994771534591457954]
  try rw[PySem.W.Fast.te479339242167458305]
  try rw[PySem.W.Fast.te16090120013241838585]
  try rw[PySem.W.Fast.te3247288618530077131]
  try rw[PySem.W.Fast.te2386780881361962483]
  try rw[PySem.W.Fast.te11698064438423848299]
  try rw[PySem.W.Fast.te7317090234206586261]
  try rw[PySem.W.Fast.te7369524293546568484]
  kernel_rfl
 ·try rw[PySem.W.Fast.te5923862056798008813]
  try rw[PySem.W.Fast.te5160383126252970620]
  try rw[PySem.W.Fast.te3399658132070893891]
  try rw[PySem.W.Fast.te5991557255702980513]
  try rw[PySem.W.Fast.te10880121769531294198]
  try rw[PySem.W.Fast.te821141287760084731]
  try rw[PySem.W.Fast.te7409074990110511671]
  try rw[PySem.W.Fast.te13664370479719496447]
  try rw[PySem.W.Fast.te14722251495701143533]
  try rw[PySem.W.Fast.te10994771534591457954]
  try rw[PySem.W.Fast.te479339242167458305]
  try rw[PySem.W.Fast.te16090120013241838585]
  try rw[PySem.W.Fast.te3247288618530077131]
  try rw[PySem.W.Fast.te2386780881361962483]
  try rw[PySem.W.Fast.te11698064438423848299]
  try rw[PySem.W.Fast.te7317090234206586261]
  try rw[PySem.W.Fast.te7369524293546568484]
  kernel_rfl
 ·try rw[PySem.W.Fast.te5923862056798008813]
  try rw[PySem.W.Fast.te5160383126252970620]
  try rw[PySem.W.Fast.te3399658132070893891]
  try rw[PySem.W.Fast.te5991557255702980513]
  try rw[PySem.W.Fast.te10880121769531294198]
  try rw[PySem.W.Fast.te821141287760084731]
  try rw[PySem.W.Fast.te7409074990110511671]
  try rw[PySem.W.Fast.te13664370479719496447]
  try rw[PySem.W.Fast.te14722251495701143533]
  try rw[PySem.W.Fast.te10994771534591457954]
  try rw[PySem.W.Fast.te479339242167458305]
  try rw[PySem.W.Fast.te16090120013241838585]
  try rw[PySem.W.Fast.te3247288618530077131]
  try rw[PySem.W.Fast.te2386780881361962483]
  try rw[PySem.W.Fast.te11698064438423848299]
  try rw[PySem.W.Fast.te7317090234206586261]
  try rw[PySem.W.Fast.te7369524293546568484]
  kernel_rfl
 ·try rw[PySem.W.Fast.te5923862056798008813]
  try rw[PySem.W.Fast.te5160383126252970620]
  try rw[PySem.W.Fast.te3399658132070893891]
  try rw[PySem.W.Fast.te5991557255702980513]
  try rw[PySem.W.Fast.te10880121769531294198]
  try rw[PySem.W.Fast.te821141287760084731]
  try rw[PySem.W.Fast.te7409074990110511671]
  try rw[PySem.W.Fast.te13664370479719496447]
  try rw[PySem.W.Fast.te14722251495701143533]
  try rw[PySem.W.Fast.te10994771534591457954]
  try rw[PySem.W.Fast.te479339242167458305]
  try rw[PySem.W.Fast.te16090120013241838585]
  try rw[PySem.W.Fast.te3247288618530077131]
  try rw[PySem.W.Fast.te2386780881361962483]
  try rw[PySem.W.Fast.te11698064438423848299]
  try rw[PySem.W.Fast.te7317090234206586261]
  try rw[PySem.W.Fast.te7369524293546568484]
  kernel_rfl
 ·try rw[PySem.W.Fast.te5923862056798008813]
  try rw[PySem.W.Fast.te5160383126252970620]
  try rw[PySem.W.Fast.te3399658132070893891]
  try rw[PySem.W.Fast.te5991557255702980513]
  try rw[PySem.W.Fast.te10880121769531294198]
  try rw[PySem.W.Fast.te821141287760084731]
  try rw[PySem.W.Fast.te7409074990110511671]
  try rw[PySem.W.Fast.te13664370479719496447]
  try rw[PySem.W.Fast.te14722251495701143533]
  try rw[PySem.W.Fast.te10994771534591457954]
  try rw[PySem.W.Fast.te479339242167458305]
  try rw[PySem.W.Fast.te16090120013241838585]
  try rw[PySem.W.Fast.te3247288618530077131]
  try rw[PySem.W.Fast.te2386780881361962483]
  try rw[PySem.W.Fast.te11698064438423848299]
  try rw[PySem.W.Fast.te7317090234206586261]
  try rw[PySem.W.Fast.te7369524293546568484]
  kernel_rfl
 ·try rw[PySem.W.Fast.te5923862056798008813]
  try rw[PySem.W.Fast.te5160383126252970620]
  try rw[PySem.W.Fast.te3399658132070893891]
  try rw[PySem.W.Fast.te5991557255702980513]
  try rw[PySem.W.Fast.te10880121769531294198]
  try rw[PySem.W.Fast.te821141287760084731]
  try rw[PySem.W.Fast.te7409074990110511671]
  try rw[PySem.W.Fast.te13664370479719496447]
  try rw[PySem.W.Fast.te14722251495701143533]
  try rw[PySem.W.Fast.te10994771534591457954]
  try rw[PySem.W.Fast.te479339242167458305]
  try rw[PySem.W.Fast.te16090120013241838585]
  try rw[PySem.W.Fast.te3247288618530077131]
  try rw[PySem.W.Fast.te2386780881361962483]
  try rw[PySem.W.Fast.te11698064438423848299]
  try rw[PySem.W.Fast.te7317090234206586261]
  try rw[PySem.W.Fast.te7369524293546568484]
  kernel_rfl
 ·try rw[PySem.W.Fast.te5923862056798008813]
  try rw[PySem.W.Fast.te5160383126252970620]
  try rw[PySem.W.Fast.te3399658132070893891]
  try rw[PySem.W.Fast.te5991557255702980513]
  try rw[PySem.W.Fast.te10880121769531294198]
  try rw[PySem.W.Fast.te821141287760084731]
  try rw[PySem.W.Fast.te7409074990110511671]
  try rw[PySem.W.Fast.te13664370479719496447]
  try rw[PySem.W.Fast.te14722251495701143533]
  try rw[PySem.W.Fast.te10994771534591457954]
  try rw[PySem.W.Fast.te479339242167458305]
  try rw[PySem.W.Fast.te16090120013241838585]
  try rw[PySem.W.Fast.te3247288618530077131]
  try rw[PySem.W.Fast.te2386780881361962483]
  try rw[PySem.W.Fast.te11698064438423848299]
  try rw[PySem.W.Fast.te7317090234206586261]
  try rw[PySem.W.Fast.te7369524293546568484]
  kernel_rfl
theorem lk2 (w:World)(os:OsState):X.obsZ AS ⟨Hf w.params,(Array.mk []),(PySem.Drawn.mk 0 0 0 0),728,os⟩=X.valZ KF 391 728 w:=by kernel_rfl
theorem left:LeftO TW Q loose Xt (X.obsZ AS) (X.valZ KF 391 728) 6008 :=
 LeftO.of_pieces (H₀:=boot_heap) (H₁:=Hf) (gs₀:=Array.mk []) (gs₁:=(Array.mk [])) (d₀:=boot_drawn) (d₁:=(PySem.Drawn.mk 0 0 0 0)) (k₀:=boot_toks) (k₁:=728) (m₀:=m0) (ann:=ann) (M:=kA+(kB+1+(2942+(kF+1))))
  (boot_open opn (by decide +kernel) fence) size run (by decide +kernel) (fun w=>funext fun os=>looks_pair (lk0 w os) (looks_pair (lk1 w os) (lk2 w os)))
theorem left':LeftO PySem.Challenge.pw_evenhub_k95_whole_settings_as_sums (view PySem.Challenge.pw_evenhub_k95_whole_settings_as_sums keep) loose (fun s=>xlAt (view PySem.Challenge.pw_evenhub_k95_whole_settings_as_sums keep) [] s && recOk (RowW.records (OpenRow.toRowW (OpenLaw.row PySem.Challenge.rw_evenhub_k95_whole_settings_as_sums))) s) (X.obsZ AS) (X.valZ KF 391 728) 6008:=by
 rw[PySem.W.Fast.te643089970516983309]
 exact left
end Hd
theorem PySem.W.X.walkX_of {q:PySem.Program}{loose:List PySem.Str}{XP:(PySem.Str→Option PySem.Value)→PySem.Heap→Prop}{K:PySem.Params→PySem.W.Frag}{as:List PySem.Addr}{n t:Nat}{r:PySem.W.RowW}{d:PySem.DefRec}{kwd:List (PySem.Str×PySem.Expr)}{run:PySem.Value→List PySem.Value→PySem.Sem PySem.Value}
  (e:∀ P,as=(K P).map (·.1))(W:PySem.W.WalkO q loose XP (fun w h=>(K w.params).In h) r d kwd run):PySem.W.WalkX q loose XP (PySem.W.X.obsZ as) (PySem.W.X.valZ K n t) r d kwd run :=
 fun w s₀ s₁ mg mb G y a o pm cd doc dV kV ho hd hcd hD hmg hg args vals asx L hpre hlay hrd hwl hlo =>
  W w s₀ s₁ mg mb G (PySem.W.InK.keeps w _ _ (PySem.W.X.z_facts e y).2.1 L.keeps) a o pm cd doc dV kV ho hd hcd hD hmg hg args vals asx hpre hlay hrd hwl hlo
open PySem PySem.W PySem.W.X PyProof.Rows Hd in
set_option maxRecDepth 100000 in
set_option maxHeartbeats 0 in
theorem PySem.Challenge.cw_evenhub_k95_whole_settings_as_sums_holds : PySem.Challenge.rw_evenhub_k95_whole_settings_as_sums.Holds := by
 w_on;o_law
 refine holds_openX (q:=(view PySem.Challenge.pw_evenhub_k95_whole_settings_as_sums keep)) (loose:=loose) (Xt:=fun s=>xlAt (view PySem.Challenge.pw_evenhub_k95_whole_settings_as_sums keep) [] s && recOk (RowW.records (OpenRow.toRowW (OpenLaw.row PySem.Challenge.rw_evenhub_k95_whole_settings_as_sums))) s) (XP:=XL (view PySem.Challenge.pw_evenhub_k95_whole_settings_as_sums keep) []) (Yf:=X.obsZ AS) (Ya:=X.valZ KF 391 728) (N:=6008) left' (fun s e=>xl_of s (Bool.and_eq_true_iff.mp e).1) XL.keeps (by rfl) (by rfl) (by rfl) (fun s e=>recFacts_of (Bool.and_eq_true_iff.mp e).2) (by rfl) (by first | assumption | decide +kernel) (by decide +kernel) ⟨rfl,rfl,rfl,rfl,rfl,by decide +kernel⟩ ?hw ?hc
 case hw=>w_witness2
 refine PySem.W.X.walkX_of (fun _=>by kernel_rfl) (K95.walk (l:=PySem.Challenge.rw_evenhub_k95_whole_settings_as_sums) rfl rfl (fun w h Y=>Y) rfl ?F)
 intro w mg fa h KX G hmg
 refine' K95.all_mk (f0:=106) (oc0:=(.type l17)) (od0:=none) (sl0:=⟨[]⟩) (kV0:=.none) (dc0:=.none) (pm0:=(.str q78 303)) (an0:=none) (cd0:=(.ref 105)) (ct0:=.none) (f1:=113) (oc1:=(.type l17)) (od1:=none) (sl1:=⟨[]⟩) (kV1:=.none) (dc1:=.none) (pm1:=(.str q78 303)) (an1:=none) (cd1:=(.ref 112)) (ct1:=.none) (f2:=120) (oc2:=(.type l17)) (od2:=none) (sl2:=⟨[]⟩) (kV2:=.none) (dc2:=.none) (pm2:=(.str q78 303)) (an2:=none) (cd2:=(.ref 119)) (ct2:=.none) (f3:=127) (oc3:=(.type l17)) (od3:=none) (sl3:=⟨[]⟩) (kV3:=.none) (dc3:=.none) (pm3:=(.str q78 303)) (an3:=none) (cd3:=(.ref 126)) (ct3:=.none) (f4:=134) (oc4:=(.type l17)) (od4:=none) (sl4:=⟨[]⟩) (kV4:=.none) (dc4:=.none) (pm4:=(.str q78 303)) (an4:=none) (cd4:=(.ref 133)) (ct4:=.none) (f5:=141) (oc5:=(.type l17)) (od5:=none) (sl5:=⟨[]⟩) (kV5:=.none) (dc5:=.none) (pm5:=(.str q78 303)) (an5:=none) (cd5:=(.ref 140)) (ct5:=.none) (f6:=148) (oc6:=(.type l17)) (od6:=none) (sl6:=⟨[]⟩) (kV6:=.none) (dc6:=.none) (pm6:=(.str q94 370)) (an6:=none) (cd6:=(.ref 147)) (ct6:=.none) (f7:=155) (oc7:=(.type l17)) (od7:=none) (sl7:=⟨[]⟩) (kV7:=.none) (dc7:=.none) (pm7:=(.str q94 370)) (an7:=none) (cd7:=(.ref 154)) (ct7:=.none) (f8:=162) (oc8:=(.type l17)) (od8:=none) (sl8:=⟨[]⟩) (kV8:=.none) (dc8:=.none) (pm8:=(.str q94 370)) (an8:=none) (cd8:=(.ref 161)) (ct8:=.none) (f9:=167) (oc9:=(.type l17)) (od9:=none) (sl9:=⟨[]⟩) (kV9:=.none) (dc9:=.none) (pm9:=(.str q97 401)) (an9:=none) (cd9:=(.ref 166)) (ct9:=.none) (f10:=174) (oc10:=(.type l17)) (od10:=none) (sl10:=⟨[]⟩) (kV10:=.none) (dc10:=.none) (pm10:=(.str q97 401)) (an10:=none) (cd10:=(.ref 173)) (ct10:=.none) (f11:=181) (oc11:=(.type l17)) (od11:=none) (sl11:=⟨[]⟩) (kV11:=.none) (dc11:=.none) (pm11:=(.str q97 401)) (an11:=none) (cd11:=(.ref 180)) (ct11:=.none) (f12:=188) (oc12:=(.type l17)) (od12:=none) (sl12:=⟨[]⟩) (kV12:=.none) (dc12:=.none) (pm12:=(.str q103 430)) (an12:=none) (cd12:=(.ref 187)) (ct12:=.none) (f13:=193) (oc13:=(.type l17)) (od13:=none) (sl13:=⟨[]⟩) (kV13:=.none) (dc13:=.none) (pm13:=(.str q103 430)) (an13:=none) (cd13:=(.ref 192)) (ct13:=.none) (f14:=198) (oc14:=(.type l17)) (od14:=none) (sl14:=⟨[]⟩) (kV14:=.none) (dc14:=.none) (pm14:=(.str q103 430)) (an14:=none) (cd14:=(.ref 197)) (ct14:=.none) (f15:=203) (oc15:=(.type l17)) (od15:=none) (sl15:=⟨[]⟩) (kV15:=.none) (dc15:=.none) (pm15:=(.str q103 430)) (an15:=none) (cd15:=(.ref 202)) (ct15:=.none) (f16:=208) (oc16:=(.type l17)) (od16:=none) (sl16:=⟨[]⟩) (kV16:=.none) (dc16:=.none) (pm16:=(.str q103 430)) (an16:=none) (cd16:=(.ref 207)) (ct16:=.none) (f17:=213) (oc17:=(.type l17)) (od17:=none) (sl17:=⟨[]⟩) (kV17:=.none) (dc17:=.none) (pm17:=(.str q103 430)) (an17:=none) (cd17:=(.ref 212)) (ct17:=.none) (f18:=218) (oc18:=(.type l17)) (od18:=none) (sl18:=⟨[]⟩) (kV18:=.none) (dc18:=.none) (pm18:=(.str q104 475)) (an18:=none) (cd18:=(.ref 217)) (ct18:=.none) (f19:=225) (oc19:=(.type l17)) (od19:=none) (sl19:=⟨[]⟩) (kV19:=.none) (dc19:=.none) (pm19:=(.str q104 475)) (an19:=none) (cd19:=(.ref 224)) (ct19:=.none) (f20:=232) (oc20:=(.type l17)) (od20:=none) (sl20:=⟨[]⟩) (kV20:=.none) (dc20:=.none) (pm20:=(.str q104 475)) (an20:=none) (cd20:=(.ref 231)) (ct20:=.none) (f21:=239) (oc21:=(.type l17)) (od21:=none) (sl21:=⟨[]⟩) (kV21:=.none) (dc21:=.none) (pm21:=(.str q109 502)) (an21:=none) (cd21:=(.ref 238)) (ct21:=.none) (f22:=244) (oc22:=(.type l17)) (od22:=none) (sl22:=⟨[]⟩) (kV22:=.none) (dc22:=.none) (pm22:=(.str q109 502)) (an22:=none) (cd22:=(.ref 243)) (ct22:=.none) (f23:=251) (oc23:=(.type l17)) (od23:=none) (sl23:=⟨[]⟩) (kV23:=.none) (dc23:=.none) (pm23:=(.str q109 502)) (an23:=none) (cd23:=(.ref 250)) (ct23:=.none) (f24:=256) (oc24:=(.type l17)) (od24:=none) (sl24:=⟨[]⟩) (kV24:=.none) (dc24:=.none) (pm24:=(.str q109 502)) (an24:=none) (cd24:=(.ref 255)) (ct24:=.none) (f25:=263) (oc25:=(.type l17)) (od25:=none) (sl25:=⟨[]⟩) (kV25:=.none) (dc25:=.none) (pm25:=(.str q109 502)) (an25:=none) (cd25:=(.ref 262)) (ct25:=.none) (f26:=270) (oc26:=(.type l17)) (od26:=none) (sl26:=⟨[]⟩) (kV26:=.none) (dc26:=.none) (pm26:=(.str q110 548)) (an26:=none) (cd26:=(.ref 269)) (ct26:=.none) (f27:=277) (oc27:=(.type l17)) (od27:=none) (sl27:=⟨[]⟩) (kV27:=.none) (dc27:=.none) (pm27:=(.str q110 548)) (an27:=none) (cd27:=(.ref 276)) (ct27:=.none) (f28:=282) (oc28:=(.type l17)) (od28:=none) (sl28:=⟨[]⟩) (kV28:=.none) (dc28:=.none) (pm28:=(.str q110 548)) (an28:=none) (cd28:=(.ref 281)) (ct28:=.none) (f29:=287) (oc29:=(.type l17)) (od29:=none) (sl29:=⟨[]⟩) (kV29:=.none) (dc29:=.none) (pm29:=(.str q112 578)) (an29:=none) (cd29:=(.ref 286)) (ct29:=.none) (f30:=294) (oc30:=(.type l17)) (od30:=none) (sl30:=⟨[]⟩) (kV30:=.none) (dc30:=.none) (pm30:=(.str q112 578)) (an30:=none) (cd30:=(.ref 293)) (ct30:=.none) (f31:=301) (oc31:=(.type l17)) (od31:=none) (sl31:=⟨[]⟩) (kV31:=.none) (dc31:=.none) (pm31:=(.str q112 578)) (an31:=none) (cd31:=(.ref 300)) (ct31:=.none) (f32:=308) (oc32:=(.type l17)) (od32:=none) (sl32:=⟨[]⟩) (kV32:=.none) (dc32:=.none) (pm32:=(.str q112 578)) (an32:=none) (cd32:=(.ref 307)) (ct32:=.none) (f33:=315) (oc33:=(.type l17)) (od33:=none) (sl33:=⟨[]⟩) (kV33:=.none) (dc33:=.none) (pm33:=(.str q112 578)) (an33:=none) (cd33:=(.ref 314)) (ct33:=.none) (f34:=322) (oc34:=(.type l17)) (od34:=none) (sl34:=⟨[]⟩) (kV34:=.none) (dc34:=.none) (pm34:=(.str q112 578)) (an34:=none) (cd34:=(.ref 321)) (ct34:=.none) (f35:=329) (oc35:=(.type l17)) (od35:=none) (sl35:=⟨[]⟩) (kV35:=.none) (dc35:=.none) (pm35:=(.str q112 578)) (an35:=none) (cd35:=(.ref 328)) (ct35:=.none) (f36:=336) (oc36:=(.type l17)) (od36:=none) (sl36:=⟨[]⟩) (kV36:=.none) (dc36:=.none) (pm36:=(.str q112 578)) (an36:=none) (cd36:=(.ref 335)) (ct36:=.none) (f37:=343) (oc37:=(.type l17)) (od37:=none) (sl37:=⟨[]⟩) (kV37:=.none) (dc37:=.none) (pm37:=(.str q4 646)) (an37:=none) (cd37:=(.ref 342)) (ct37:=.none) (f38:=350) (oc38:=(.type l17)) (od38:=none) (sl38:=⟨[]⟩) (kV38:=.none) (dc38:=.none) (pm38:=(.str q4 646)) (an38:=none) (cd38:=(.ref 349)) (ct38:=.none) (f39:=357) (oc39:=(.type l17)) (od39:=none) (sl39:=⟨[]⟩) (kV39:=.none) (dc39:=.none) (pm39:=(.str q4 646)) (an39:=none) (cd39:=(.ref 356)) (ct39:=.none) (f40:=364) (oc40:=(.type l17)) (od40:=none) (sl40:=⟨[]⟩) (kV40:=.none) (dc40:=.none) (pm40:=(.str q4 646)) (an40:=none) (cd40:=(.ref 363)) (ct40:=.none) (f41:=371) (oc41:=(.type l17)) (od41:=none) (sl41:=⟨[]⟩) (kV41:=.none) (dc41:=.none) (pm41:=(.str q4 646)) (an41:=none) (cd41:=(.ref 370)) (ct41:=.none) (f42:=378) (oc42:=(.type l17)) (od42:=none) (sl42:=⟨[]⟩) (kV42:=.none) (dc42:=.none) (pm42:=(.str q4 646)) (an42:=none) (cd42:=(.ref 377)) (ct42:=.none) (f43:=385) (oc43:=(.type l17)) (od43:=none) (sl43:=⟨[]⟩) (kV43:=.none) (dc43:=.none) (pm43:=(.str q4 646)) (an43:=none) (cd43:=(.ref 384)) (ct43:=.none) (f44:=390) (oc44:=(.type l17)) (od44:=none) (sl44:=⟨[]⟩) (kV44:=.none) (dc44:=.none) (pm44:=(.str q4 646)) (an44:=none) (cd44:=(.ref 389)) (ct44:=.none) (t_MOST_HOLES:=504) (t_LEAD_BITS:=305) (cc:=212) (tT:=210) (lo1:=(.type l1)) (lo2:=none) (lo3:=⟨[]⟩) (lvs:=⟨[(.str q38 469),(.str q38 470),(.str q1 471),(I 140 0),(I 4 0),(I 0 0),(I 0 0),(I 3 0),(.ref 209),(.bool Bool.true),(I 181 0),(.ref 210),.none,.none,.none,(.ref 211),(I 472 0),(I 140 0),(.str q1 473)]⟩) KX G hmg ?a0 ?l0 ?c0 ?k0 ?a1 ?l1 ?c1 ?k1 ?a2 ?l2 ?c2 ?k2 ?a3 ?l3 ?c3 ?k3 ?a4 ?l4 ?c4 ?k4 ?a5 ?l5 ?c5 ?k5 ?a6 ?l6 ?c6 ?k6 ?a7 ?l7 ?c7 ?k7 ?a8 ?l8 ?c8 ?k8 ?a9 ?l9 ?c9 ?k9 ?a10 ?l10 ?c10 ?k10 ?a11 ?l11 ?c11 ?k11 ?a12 ?l12 ?c12 ?k12 ?a13 ?l13 ?c13 ?k13 ?a14 ?l14 ?c14 ?k14 ?a15 ?l15 ?c15 ?k15 ?a16 ?l16 ?c16 ?k16 ?a17 ?l17 ?c17 ?k17 ?a18 ?l18 ?c18 ?k18 ?a19 ?l19 ?c19 ?k19 ?a20 ?l20 ?c20 ?k20 ?a21 ?l21 ?c21 ?k21 ?a22 ?l22 ?c22 ?k22 ?a23 ?l23 ?c23 ?k23 ?a24 ?l24 ?c24 ?k24 ?a25 ?l25 ?c25 ?k25 ?a26 ?l26 ?c26 ?k26 ?a27 ?l27 ?c27 ?k27 ?a28 ?l28 ?c28 ?k28 ?a29 ?l29 ?c29 ?k29 ?a30 ?l30 ?c30 ?k30 ?a31 ?l31 ?c31 ?k31 ?a32 ?l32 ?c32 ?k32 ?a33 ?l33 ?c33 ?k33 ?a34 ?l34 ?c34 ?k34 ?a35 ?l35 ?c35 ?k35 ?a36 ?l36 ?c36 ?k36 ?a37 ?l37 ?c37 ?k37 ?a38 ?l38 ?c38 ?k38 ?a39 ?l39 ?c39 ?k39 ?a40 ?l40 ?c40 ?k40 ?a41 ?l41 ?c41 ?k41 ?a42 ?l42 ?c42 ?k42 ?a43 ?l43 ?c43 ?k43 ?a44 ?l44 ?c44 ?k44 ?z0 ?z1 ?z2 ?z3 ?z4 ?z5 ?z6 ?z7 ?z8 ?z9 ?z10 ?z11 ?ag_MOST_HOLES ?ag_LEAD_BITS ?lcd ?lc ?lv ?lk
 (case a0=>kernel_rfl)
 (case l0=>kernel_rfl)
 (case c0=>kernel_rfl)
 (case k0=>kernel_rfl)
 (case a1=>kernel_rfl)
 (case l1=>kernel_rfl)
 (case c1=>kernel_rfl)
 (case k1=>kernel_rfl)
 (case a2=>kernel_rfl)
 (case l2=>kernel_rfl)
 (case c2=>kernel_rfl)
 (case k2=>kernel_rfl)
 (case a3=>kernel_rfl)
 (case l3=>kernel_rfl)
 (case c3=>kernel_rfl)
 (case k3=>kernel_rfl)
 (case a4=>kernel_rfl)
 (case l4=>kernel_rfl)
 (case c4=>kernel_rfl)
 (case k4=>kernel_rfl)
 (case a5=>kernel_rfl)
 (case l5=>kernel_rfl)
 (case c5=>kernel_rfl)
 (case k5=>kernel_rfl)
 (case a6=>kernel_rfl)
 (case l6=>kernel_rfl)
 (case c6=>kernel_rfl)
 (case k6=>kernel_rfl)
 (case a7=>kernel_rfl)
 (case l7=>kernel_rfl)
 (case c7=>kernel_rfl)
 (case k7=>kernel_rfl)
 (case a8=>kernel_rfl)
 (case l8=>kernel_rfl)
 (case c8=>kernel_rfl)
 (case k8=>kernel_rfl)
 (case a9=>kernel_rfl)
 (case l9=>kernel_rfl)
 (case c9=>kernel_rfl)
 (case k9=>kernel_rfl)
 (case a10=>kernel_rfl)
 (case l10=>kernel_rfl)
 (case c10=>kernel_rfl)
 (case k10=>kernel_rfl)
 (case a11=>kernel_rfl)
 (case l11=>kernel_rfl)
 (case c11=>kernel_rfl)
 (case k11=>kernel_rfl)
 (case a12=>kernel_rfl)
 (case l12=>kernel_rfl)
 (case c12=>kernel_rfl)
 (case k12=>kernel_rfl)
 (case a13=>kernel_rfl)
 (case l13=>kernel_rfl)
 (case c13=>kernel_rfl)
 (case k13=>kernel_rfl)
 (case a14=>kernel_rfl)
 (case l14=>kernel_rfl)
 (case c14=>kernel_rfl)
 (case k14=>kernel_rfl)
 (case a15=>kernel_rfl)
 (case l15=>kernel_rfl)
 (case c15=>kernel_rfl)
 (case k15=>kernel_rfl)
 (case a16=>kernel_rfl)
 (case l16=>kernel_rfl)
 (case c16=>kernel_rfl)
 (case k16=>kernel_rfl)
 (case a17=>kernel_rfl)
 (case l17=>kernel_rfl)
 (case c17=>kernel_rfl)
 (case k17=>kernel_rfl)
 (case a18=>kernel_rfl)
 (case l18=>kernel_rfl)
 (case c18=>kernel_rfl)
 (case k18=>kernel_rfl)
 (case a19=>kernel_rfl)
 (case l19=>kernel_rfl)
 (case c19=>kernel_rfl)
 (case k19=>kernel_rfl)
 (case a20=>kernel_rfl)
 (case l20=>kernel_rfl)
 (case c20=>kernel_rfl)
 (case k20=>kernel_rfl)
 (case a21=>kernel_rfl)
 (case l21=>kernel_rfl)
 (case c21=>kernel_rfl)
 (case k21=>kernel_rfl)
 (case a22=>kernel_rfl)
 (case l22=>kernel_rfl)
 (case c22=>kernel_rfl)
 (case k22=>kernel_rfl)
 (case a23=>kernel_rfl)
 (case l23=>kernel_rfl)
 (case c23=>kernel_rfl)
 (case k23=>kernel_rfl)
 (case a24=>kernel_rfl)
 (case l24=>kernel_rfl)
 (case c24=>kernel_rfl)
 (case k24=>kernel_rfl)
 (case a25=>kernel_rfl)
 (case l25=>kernel_rfl)
 (case c25=>kernel_rfl)
 (case k25=>kernel_rfl)
 (case a26=>kernel_rfl)
 (case l26=>kernel_rfl)
 (case c26=>kernel_rfl)
 (case k26=>kernel_rfl)
 (case a27=>kernel_rfl)
 (case l27=>kernel_rfl)
 (case c27=>kernel_rfl)
 (case k27=>kernel_rfl)
 (case a28=>kernel_rfl)
 (case l28=>kernel_rfl)
 (case c28=>kernel_rfl)
 (case k28=>kernel_rfl)
 (case a29=>kernel_rfl)
 (case l29=>kernel_rfl)
 (case c29=>kernel_rfl)
 (case k29=>kernel_rfl)
 (case a30=>kernel_rfl)
 (case l30=>kernel_rfl)
 (case c30=>kernel_rfl)
 (case k30=>kernel_rfl)
 (case a31=>kernel_rfl)
 (case l31=>kernel_rfl)
 (case c31=>kernel_rfl)
 (case k31=>kernel_rfl)
 (case a32=>kernel_rfl)
 (case l32=>kernel_rfl)
 (case c32=>kernel_rfl)
 (case k32=>kernel_rfl)
 (case a33=>kernel_rfl)
 (case l33=>kernel_rfl)
 (case c33=>kernel_rfl)
 (case k33=>kernel_rfl)
 (case a34=>kernel_rfl)
 (case l34=>kernel_rfl)
 (case c34=>kernel_rfl)
 (case k34=>kernel_rfl)
 (case a35=>kernel_rfl)
 (case l35=>kernel_rfl)
 (case c35=>kernel_rfl)
 (case k35=>kernel_rfl)
 (case a36=>kernel_rfl)
 (case l36=>kernel_rfl)
 (case c36=>kernel_rfl)
 (case k36=>kernel_rfl)
 (case a37=>kernel_rfl)
 (case l37=>kernel_rfl)
 (case c37=>kernel_rfl)
 (case k37=>kernel_rfl)
 (case a38=>kernel_rfl)
 (case l38=>kernel_rfl)
 (case c38=>kernel_rfl)
 (case k38=>kernel_rfl)
 (case a39=>kernel_rfl)
 (case l39=>kernel_rfl)
 (case c39=>kernel_rfl)
 (case k39=>kernel_rfl)
 (case a40=>kernel_rfl)
 (case l40=>kernel_rfl)
 (case c40=>kernel_rfl)
 (case k40=>kernel_rfl)
 (case a41=>kernel_rfl)
 (case l41=>kernel_rfl)
 (case c41=>kernel_rfl)
 (case k41=>kernel_rfl)
 (case a42=>kernel_rfl)
 (case l42=>kernel_rfl)
 (case c42=>kernel_rfl)
 (case k42=>kernel_rfl)
 (case a43=>kernel_rfl)
 (case l43=>kernel_rfl)
 (case c43=>kernel_rfl)
 (case k43=>kernel_rfl)
 (case a44=>kernel_rfl)
 (case l44=>kernel_rfl)
 (case c44=>kernel_rfl)
 (case k44=>kernel_rfl)
 (case z0=>kernel_rfl)
 (case z1=>kernel_rfl)
 (case z2=>kernel_rfl)
 (case z3=>kernel_rfl)
 (case z4=>kernel_rfl)
 (case z5=>kernel_rfl)
 (case z6=>kernel_rfl)
 (case z7=>kernel_rfl)
 (case z8=>kernel_rfl)
 (case z9=>kernel_rfl)
 (case z10=>kernel_rfl)
 (case z11=>kernel_rfl)
 (case ag_MOST_HOLES=>kernel_rfl)
 (case ag_LEAD_BITS=>kernel_rfl)
 (case lcd=>kernel_rfl)
 (case lc=>kernel_rfl)
 (case lv=>kernel_rfl)
 (case lk=>kernel_rfl)
#print axioms PySem.Challenge.cw_evenhub_k95_whole_settings_as_sums_holds
