import PyProof.Rows.All
import Wide.All
import OpenK.AllK
import Wide.FinOn
import Lean
import PyProof.EqAt
import PyProof.EqKinds
import PyProof.TupleCall
import PySem.Challenge.RW_runpaint_k11_whole_judged
set_option Elab.async false
set_option linter.all false
set_option maxRecDepth 100000
set_option maxHeartbeats 4000000
namespace L2
open PySem PySem.Spec PyProof.Rows
abbrev Key:=Sum Int Str
def Zd7:Key→Value→Bool
 | .inl k,v=>Value.isInt k v
 | .inr x,v=>Value.isStrOf x v
def keyH (w:World):Key→Int
 | .inl k=>hashInt k
 | .inr x=>hashStr w x
theorem Qb4:∀{k:Key}{v:Value},Zd7 k v=true→(∃i t,k=Sum.inl i∧v=Value.int i t)∨(∃x t,k=Sum.inr x∧v=Value.str x t)
 | .inl i,v,h=>by
  obtain⟨t,e⟩:=Value.isInt_shape (k:=i) (v:=v) h
  exact .inl ⟨i,t,rfl,e⟩
 | .inr x,v,h=>by
  obtain⟨t,e⟩:=Value.isStrOf_shape (x:=x) (v:=v) h
  exact .inr ⟨x,t,rfl,e⟩
theorem Xc0 (i:Int) (t:Tok):Zd7 (.inl i) (.int i t)=true:=by simp[Zd7,Value.isInt]
theorem Xc1 (x:Str) (t:Tok):Zd7 (.inr x) (.str x t)=true:=by simp[Zd7,Value.isStrOf]
theorem Yy7 (a b:Int):decide ((Sum.inl a:Key)=Sum.inl b)=(a==b):=by
 by_cases e:a=b
 ·subst e;simp
 ·have h:¬(Sum.inl a:Key)=Sum.inl b:=fun q=>e (Sum.inl.inj q)
  rw[decide_eq_false h]
  exact(beq_eq_false_iff_ne.mpr e).symm
theorem Yy8 (a b:Str):decide ((Sum.inr a:Key)=Sum.inr b)=decide (a=b):=by
 by_cases e:a=b
 ·subst e;simp
 ·have h:¬(Sum.inr a:Key)=Sum.inr b:=fun q=>e (Sum.inr.inj q)
  rw[decide_eq_false h,decide_eq_false e]
theorem Yy9 (a:Int) (b:Str):decide ((Sum.inl a:Key)=Sum.inr b)=false:=decide_eq_false (fun q=>nomatch q)
theorem Yg0 (a:Str) (b:Int):decide ((Sum.inr a:Key)=Sum.inl b)=false:=decide_eq_false (fun q=>nomatch q)
def Qm3 (prog:Program) (w:World):PySem.KeyKind prog w Key where
 is:=Zd7
 hash:=keyH w
 inj:=fun v a b ha hb=>by
  rcases Qb4 ha with ⟨i,t,rfl,rfl⟩|⟨x,t,rfl,rfl⟩
  ·rcases Qb4 hb with ⟨j,u,rfl,e⟩|⟨y,u,rfl,e⟩
   ·injection e with e1 _;rw[e1]
   ·exact nomatch e
  ·rcases Qb4 hb with ⟨j,u,rfl,e⟩|⟨y,u,rfl,e⟩
   ·exact nomatch e
   ·injection e with e1 _;rw[e1]
 byValue:=fun k v h=>by
  rcases Qb4 h with ⟨i,t,rfl,rfl⟩|⟨x,t,rfl,rfl⟩<;>rfl
 pyHash:=fun hv h=>by
  rcases Qb4 hv with ⟨i,t,rfl,rfl⟩|⟨x,t,rfl,rfl⟩
  ·exact wpAny_pyHash_int h
  ·exact wpAny_pyHash_str h
 eqBool:=fun hu hv h=>by
  rcases Qb4 hu with ⟨i,t,rfl,rfl⟩|⟨x,t,rfl,rfl⟩
  ·rcases Qb4 hv with ⟨j,u,rfl,rfl⟩|⟨y,u,rfl,rfl⟩
   ·rw[Yy7]at h;exact wpAny_eqBool_int h
   ·rw[Yy9]at h;exact SeqAt.EqAt.int_str i t y u _ _ _ _ h
  ·rcases Qb4 hv with ⟨j,u,rfl,rfl⟩|⟨y,u,rfl,rfl⟩
   ·rw[Yg0]at h;exact SeqAt.EqAt.str_int x t j u _ _ _ _ h
   ·rw[Yy8]at h;exact wpAny_eqBool_str h
 «strs»:=fun k x t v h=>by
  rcases Qb4 h with ⟨i,u,rfl,e⟩|⟨y,u,rfl,e⟩
  ·exact nomatch e
  ·injection e with e1 _
   subst e1
   cases v<;>rfl
theorem Xb1 (prog:Program) (w:World) (i:Int) (t:Tok):(Qm3 prog w).is (.inl i) (.int i t)=true:=Xc0 i t
theorem Xb2 (prog:Program) (w:World) (x:Str) (t:Tok):(Qm3 prog w).is (.inr x) (.str x t)=true:=Xc1 x t
end L2
namespace L2
open PySem PySem.Spec PyProof.Rows
inductive V where
 | non|bl (b:Bool)|int (i:Int)|str (x:Str)|byt (b:Array UInt8)|flt (b:UInt64)|ref (a:Addr)|ty (n:String)
 deriving DecidableEq
def RelV:V→Value→Prop
 | .non,u=>u=Value.none
 | .bl b,u=>u=Value.bool b
 | .int i,u=>∃t,u=Value.int i t
 | .str x,u=>∃t,u=Value.str x t
 | .byt b,u=>∃t,u=Value.bytes b t
 | .flt b,u=>∃t,u=Value.float b t
 | .ref a,u=>u=Value.ref a
 | .ty n,u=>u=Value.type n
abbrev Vals:List V→List Value→Prop:=Paired RelV
theorem Vals.length {xs:List V}{us:List Value} (r:Vals xs us):xs.length=us.length:=Paired.length r
theorem Vals.get:∀{xs:List V}{us:List Value}{i:Nat}{x:V},Vals xs us→xs[i]?=some x→∃u,us[i]?=some u∧RelV x u
 | _,_,_,_,.nil,e=>by simp at e
 | _,_,0,_,.cons r _,e=>by simp at e;subst e;exact⟨_,rfl,r⟩
 | _,_,i+1,x,.cons _ t,e=>by
  obtain⟨u,h1,h2⟩:=Vals.get (i:=i) (x:=x) t (by simpa using e)
  exact⟨u,by simpa using h1,h2⟩
theorem Vals.set {x:V}{u:Value} (r:RelV x u):∀{xs:List V}{us:List Value} (i:Nat),Vals xs us→Vals (xs.set i x) (us.set i u)
 | _,_,_,.nil=>.nil
 | _,_,0,.cons _ t=>.cons r t
 | _,_,i+1,.cons q t=>.cons q (Vals.set r i t)
theorem Vals.append:∀{xs ys:List V}{us ws:List Value},Vals xs us→Vals ys ws→Vals (xs++ys) (us++ws)
 | _,_,_,_,.nil,s=>s
 | _,_,_,_,.cons r t,s=>.cons r (Vals.append t s)
theorem Vals.take:∀{xs:List V}{us:List Value} (n:Nat),Vals xs us→Vals (xs.take n) (us.take n)
 | _,_,0,_=>.nil
 | _,_,_+1,.nil=>.nil
 | _,_,n+1,.cons r t=>.cons r (Vals.take n t)
theorem Vals.drop:∀{xs:List V}{us:List Value} (n:Nat),Vals xs us→Vals (xs.drop n) (us.drop n)
 | _,_,0,r=>r
 | _,_,_+1,.nil=>.nil
 | _,_,n+1,.cons _ t=>Vals.drop n t
def RelO:Option V→Option Value→Prop
 | some v,some u=>RelV v u
 | none,none=>True
 | _,_=>False
def KV {κ:Type}:List (κ×V)→List (κ×Value)→Prop:=Paired fun (p:κ×V) (q:κ×Value)=>p.1=q.1∧RelV p.2 q.2
def kV:Key→V
 | .inl i=>.int i
 | .inr x=>.str x
inductive HO where
 | lst (xs:List V)
 | tup (xs:List V)
 | dK (kvs:List (Key×V))|dT (kvs:List (List Key×V))
 | set (S:Int→Bool) (n:Nat)
 | ins (C dx:Addr) (fs:List (Str×V))
 | own (x:Addr)
 | xd (fs:List (Str×V))
 | met (f x:Addr)
 | rng (lo hi:Int)
 | frz (o:Obj) (u:HO)
 | tbl (ps:Array Value)
 | ext (φ:Heap→Prop)
abbrev Hp:=Addr→Option HO
def upd (H:Hp) (a:Addr) (o:HO):Hp:=fun b=>if b=a then some o else H b
theorem Qq1 {H:Hp}{a:Addr}{o:HO}:upd H a o a=some o:=by unfold upd;rw[if_pos rfl]
theorem Qz1 {H:Hp}{a b:Addr}{o:HO} (h:b≠a):upd H a o b=H b:=by unfold upd;rw[if_neg h]
theorem Xp0 {H:Hp}{a:Addr}{o u:HO}:upd (upd H a o) a u=upd H a u:=by
 funext b;unfold upd;split<;>rfl
theorem Zw0 {H:Hp}{a b:Addr}{o u:HO} (h:H a=some o) (h':H b=some u) (d:o≠u):a≠b:=by
 intro e;subst e;rw[h]at h';exact d (Option.some.inj h')
theorem Qk4 {H:Hp}{a b:Addr}{o:HO} (h:H a=some o) (h':H b=none):a≠b:=by
 intro e;subst e;rw[h]at h';cases h'
section
variable (P:Program) (w:World)
def Qv5 (H:Hp) (h:Heap) (a:Addr):HO→Prop
 | .lst xs=>xs.length≤sizeLine∧∃(its:List Value) (n:Nat),Vals xs its∧h.get? a=some { cls:=.type "list",data:=.seq its.toArray n }
 | .tup xs=>xs.length≤sizeLine∧∃its:List Value,Vals xs its∧IsTup h a its.toArray
 | .dK kvs=>kvs.length≤sizeLine∧(a==sysModules)=false∧∃vs,KV kvs vs∧h.DictOf (Qm3 P w) a vs
 | .dT kvs=>kvs.length≤sizeLine∧(a==sysModules)=false∧∃xs:List (List Key×Addr×Value),
   Paired (fun (p:List Key×V) (q:List Key×Addr×Value)=>p.1=q.1∧H q.2.1=some (.tup (p.1.map kV))∧RelV p.2 q.2.2) kvs xs ∧
   ∃o es ep,h.get? a=some o∧o.ExactDict∧o.data=.dict es ep∧es.toList=xs.map (entryOfKey (tupleKind (Qm3 P w)))∧(xs.map (·.1)).Nodup
 | .set S n=>h.SetOf (intKind P w) a S n
 | .ins C dx fs=>H dx=some (.own a)∧fs.length≤1000∧dx≠a∧h.get? a=some (PySem.W.instObj C dx) ∧
   ∃mA,h.Ns1 dx mA∧(∀f,RelO (fs.lookup f) (mA f))∧PySem.Within mA (fs.map (·.1))
 | .own _=>∃o,h.get? a=some o
 | .xd fs=>∃mA,h.Ns1 a mA∧∀f,RelO (fs.lookup f) (mA f)
 | .rng lo hi=>∃t u v,h.get? a=some { cls:=.type "range",data:=.fields #[.int lo t,.int hi u,.int 1 v] }
 | .frz o u=>h.get? a=some o∧Qv5 H h a u
 | .tbl ps=>h.get? a=some { cls:=.none,data:=.fields ps }
 | .met f x=>h.get? a=some (PySem.W.methodObj (.ref f) (.ref x))
 | .ext φ=>φ h∧(∃o,h.get? a=some o)∧∀h1 h2:Heap,φ h1→(∀o,h1.get? a=some o→h2.get? a=some o)→φ h2
def HOk (H:Hp) (h:Heap):Prop:=∀a o,H a=some o→Qv5 P w H h a o
end
section
variable {P:Program}{w:World}{H H':Hp}{h h':Heap}{a:Addr}{o:HO}
theorem Qv5.lt (x:Qv5 P w H h a o):a<h.objs.size:=by
 cases o with
 | lst xs=>obtain⟨_,_,_,_,e⟩:=x;exact Heap.lt_size e
 | tup xs=>obtain⟨_,_,_,p⟩:=x;exact p.lt
 | dK kvs=>obtain⟨_,_,_,_,o,_,_,e,_⟩:=x;exact Heap.lt_size e
 | dT kvs=>obtain⟨_,_,_,_,o,_,_,e,_⟩:=x;exact Heap.lt_size e
 | set S n=>obtain⟨o,_,_,_,e,_⟩:=x;exact Heap.lt_size e
 | ins C dx fs=>obtain⟨_,_,_,e,_⟩:=x;exact Heap.lt_size e
 | own y=>obtain⟨_,e⟩:=x;exact Heap.lt_size e
 | xd fs=>obtain⟨_,⟨_,_,_,e,_⟩,_⟩:=x;exact Heap.lt_size e
 | rng lo hi=>obtain⟨_,_,_,e⟩:=x;exact Heap.lt_size e
 | frz ob u=>obtain⟨e,_⟩:=x;exact Heap.lt_size e
 | tbl ps=>exact Heap.lt_size (show h.get? a=some _ from x)
 | met f y=>exact Heap.lt_size (show h.get? a=some _ from x)
 | ext φ=>obtain⟨_,⟨_,e⟩,_⟩:=x;exact Heap.lt_size e
theorem Paired.mapP {α β:Type}{F G:α→β→Prop}:∀{l₁:List α}{l₂:List β},Paired F l₁ l₂→(∀a b,F a b→G a b)→Paired G l₁ l₂
 | _,_,.nil,_=>.nil
 | _,_,.cons r t,f=>.cons (f _ _ r) (Paired.mapP t f)
theorem Qv5.stay (x:Qv5 P w H h a o) (k:∀b u,(b=a∨H b=some (.own a))→h.get? b=some u→h'.get? b=some u)
  (ho:∀b,H b=some (.own a)→H' b=some (.own a)) (ht:∀b xs,H b=some (.tup xs)→H' b=some (.tup xs)):Qv5 P w H' h' a o:=by
 induction o with
 | lst xs=>obtain⟨z,its,n,r,e⟩:=x;exact⟨z,its,n,r,k _ _ (.inl rfl) e⟩
 | tup xs=>obtain⟨z,its,r,ob,e,c⟩:=x;exact⟨z,its,r,ob,k _ _ (.inl rfl) e,c⟩
 | dK kvs=>obtain⟨z,y,vs,r,ob,es,ep,e,c⟩:=x;exact⟨z,y,vs,r,ob,es,ep,k _ _ (.inl rfl) e,c⟩
 | dT kvs =>
  obtain⟨z,y,xs,r,ob,es,ep,e,c⟩:=x
  exact⟨z,y,xs,Paired.mapP r fun p q z=>⟨z.1,ht _ _ z.2.1,z.2.2⟩,ob,es,ep,k _ _ (.inl rfl) e,c⟩
 | set S n=>obtain⟨ob,es,ep,t,e,c⟩:=x;exact⟨ob,es,ep,t,k _ _ (.inl rfl) e,c⟩
 | ins C dx fs =>
  obtain⟨d,z,ne,e,mA,⟨od,es,ep,e2,c⟩,r⟩:=x
  exact⟨ho _ d,z,ne,k _ _ (.inl rfl) e,mA,⟨od,es,ep,k _ _ (.inr d) e2,c⟩,r⟩
 | own y=>obtain⟨ob,e⟩:=x;exact⟨ob,k _ _ (.inl rfl) e⟩
 | xd fs=>obtain⟨mA,⟨od,es,ep,e,c⟩,r⟩:=x;exact⟨mA,⟨od,es,ep,k _ _ (.inl rfl) e,c⟩,r⟩
 | rng lo hi=>obtain⟨t,u,v,e⟩:=x;exact⟨t,u,v,k _ _ (.inl rfl) e⟩
 | frz ob u ih=>obtain⟨e,q⟩:=x;exact⟨k _ _ (.inl rfl) e,ih q⟩
 | tbl ps =>
  have e:h.get? a=some { cls:=.none,data:=.fields ps }:=x
  show h'.get? a=some { cls:=.none,data:=.fields ps }
  exact k a _ (.inl rfl) e
 | met f y =>
  have e:h.get? a=some (PySem.W.methodObj (.ref f) (.ref y)):=x
  show h'.get? a=some (PySem.W.methodObj (.ref f) (.ref y))
  exact k a _ (.inl rfl) e
 | ext φ=>obtain⟨p,⟨o,e⟩,st⟩:=x;exact⟨st _ _ p fun o q=>k _ _ (.inl rfl) q,⟨o,k _ _ (.inl rfl) e⟩,st⟩
theorem HOk.lt (x:HOk P w H h) (e:H a=some o):a<h.objs.size:=(x a o e).lt
theorem HOk.fresh (x:HOk P w H h) (e:h.objs.size≤a):H a=none:=by
 cases q:H a with
 | none=>rfl
 | some u=>exact absurd (Nat.lt_of_lt_of_le (x.lt q) e) (Nat.lt_irrefl _)
theorem HOk.kept (x:HOk P w H h) (k:∀b u,h.get? b=some u→h'.get? b=some u):HOk P w H h':=fun a o e =>
 (x a o e).stay (fun b u _ q=>k b u q) (fun _ q=>q) fun _ _ q=>q
theorem HOk.laid (x:HOk P w H h) (k:∀b u,h.get? b=some u→h'.get? b=some u) (hp:h.objs.size≤a) (new:Qv5 P w (upd H a o) h' a o):HOk P w (upd H a o) h':=fun b u e=>by
 have hn:=x.fresh hp
 by_cases hb:b=a
 ·subst hb;rw[Qq1]at e;cases e;exact new
 ·rw[Qz1 hb]at e
  exact(x b u e).stay (fun c v _ q=>k c v q) (fun c q=>by rw[Qz1 (Qk4 q hn)];exact q) fun c xs q=>by rw[Qz1 (Qk4 q hn)];exact q
end
def Rd (H:Hp) (a:Addr) (u:HO):Prop:=H a=some u∨∃o,H a=some (.frz o u)
theorem Rd.ok {P:Program}{w:World}{H:Hp}{h:Heap}{a:Addr}{u:HO} (r:Rd H a u) (x:HOk P w H h):Qv5 P w H h a u:=by
 rcases r with r|⟨o,r⟩
 ·exact x a u r
 ·obtain⟨_,q⟩:=x a _ r
  exact q
def Mut:Option HO→Prop
 | some (.lst _)=>True
 | some (.dK _)=>True
 | some (.dT _)=>True
 | some (.set _ _)=>True
 | some (.ins _ _ _)=>True
 | some (.ext _)=>True
 | _=>False
section
variable {P:Program}{w:World}{H:Hp}{h h':Heap}{x e:Addr}{o':HO}
theorem HOk.write (ok:HOk P w H h) (mu:Mut (H x)) (he:e=x∨H e=some (.own x)) (k:∀b u,b≠e→h.get? b=some u→h'.get? b=some u) (heo:∃u,h'.get? e=some u)
  (new:Qv5 P w (upd H x o') h' x o'):HOk P w (upd H x o') h':=fun b u q=>by
 have nown:∀c y,H c=some (.own y)→c≠x:=fun c y r z=>by subst z;rw[r]at mu;exact mu
 have ntup:∀c xs,H c=some (.tup xs)→c≠x:=fun c xs r z=>by subst z;rw[r]at mu;exact mu
 by_cases hb:b=x
 ·subst hb;rw[Qq1]at q;cases q;exact new
 ·rw[Qz1 hb]at q
  by_cases hbe:b=e
  ·have q':H b=some (.own x):=by
    rcases he with z|z
    ·exact absurd (hbe.trans z) hb
    ·rw[hbe];exact z
   rw[q]at q';cases q'
   obtain⟨v,hv⟩:=heo
   exact⟨v,by rw[hbe];exact hv⟩
  ·refine(ok b u q).stay (fun c v hc r=>k c v ?_ r) (fun c r=>by rw[Qz1 (nown c b r)];exact r) fun c xs r=>by rw[Qz1 (ntup c xs r)];exact r
   rcases hc with rfl|hc
   ·exact hbe
   ·rintro rfl
    rcases he with z|z
    ·exact nown c b hc z
    ·rw[hc]at z;cases z;exact hb rfl
end
structure Un (fs ex:List Addr) (H H':Hp) (h h':Heap):Prop where
 keep:∀b o,h.get? b=some o→H b=none→b∉fs→b∉ex→h'.get? b=some o
 slot:∀b o,h.get? b=some o→H b=none→b∈fs→b∉ex→∃sl,h'.get? b=some { o with slots:=sl }
 free:∀b o,h.get? b=some o→H b=none→b∉ex→H' b=none
 there:∀b o,h.get? b=some o→b∉ex→∃o',h'.get? b=some o'
 tups:∀b xs,H b=some (.tup xs)→H' b=some (.tup xs)
 frzs:∀b o u,H b=some (.frz o u)→H' b=some (.frz o u)
 tbls:∀b ps,H b=some (.tbl ps)→∃more,H' b=some (.tbl (ps++more))
section
variable {fs fs' ex ex':List Addr}{H H1 H2:Hp}{h h1 h2 h':Heap}{a x e:Addr}{o:HO}
theorem Un.any (u:Un fs ex H H1 h h1) {b:Addr}{ob:Obj} (q:h.get? b=some ob) (n:H b=none) (hx:b∉ex):∃sl,h1.get? b=some { ob with slots:=sl }:=by
 by_cases hb:b∈fs
 ·exact u.slot b ob q n hb hx
 ·exact⟨ob.slots,u.keep b ob q n hb hx⟩
theorem Un.kept (k:∀b u,h.get? b=some u→h'.get? b=some u):Un fs ex H H h h' :=
 ⟨fun b ob q _ _ _=>k b ob q,fun b ob q _ _ _=>⟨ob.slots,k b ob q⟩,fun _ _ _ n _=>n,fun b ob q _=>⟨ob,k b ob q⟩,fun _ _ q=>q,fun _ _ _ q=>q,fun _ ps q=>⟨#[],by rw[q];simp⟩⟩
theorem Un.refl:Un fs ex H H h h:=Un.kept fun _ _ q=>q
theorem Un.laid (k:∀b u,h.get? b=some u→h'.get? b=some u) (hp:h.objs.size≤a) (hn:H a=none):Un fs ex H (upd H a o) h h' where
 keep:=fun b u q _ _ _=>k b u q
 slot:=fun b u q _ _ _=>⟨u.slots,k b u q⟩
 free:=fun b u q n _=>by rw[Qz1 (Nat.ne_of_lt (Nat.lt_of_lt_of_le (Heap.lt_size q) hp))];exact n
 there:=fun b u q _=>⟨u,k b u q⟩
 tups:=fun b xs q=>by rw[Qz1 (Qk4 q hn)];exact q
 frzs:=fun b u xs q=>by rw[Qz1 (Qk4 q hn)];exact q
 tbls:=fun b ps q=>⟨#[],by rw[Qz1 (Qk4 q hn),q];simp⟩
theorem Un.write (mu:Mut (H x)) (he:e=x∨H e=some (.own x)) (k:∀b u,b≠e→h.get? b=some u→h'.get? b=some u) (heo:∃u,h'.get? e=some u):Un fs ex H (upd H x o) h h':=by
 have hx:∀b,H b=none→b≠x:=fun b n z=>by subst z;rw[n]at mu;exact mu
 have hb:∀b,H b=none→b≠e:=fun b n z=>by
  subst z
  rcases he with r|r
  ·exact hx b n r
  ·rw[n]at r;cases r
 have hm:∀b u,H b=some u→¬Mut (some u)→b≠x:=fun b u q nm z=>by subst z;rw[q]at mu;exact nm mu
 refine⟨fun b u q n _ _=>k b u (hb b n) q,fun b u q n _ _=>⟨u.slots,k b u (hb b n) q⟩,fun b u q n _=>by rw[Qz1 (hx b n)];exact n,fun b u q _=>?_,
  fun b xs q=>by rw[Qz1 (hm b _ q fun z=>z)];exact q,fun b u xs q=>by rw[Qz1 (hm b _ q fun z=>z)];exact q,fun b ps q=>⟨#[],by rw[Qz1 (hm b _ q fun z=>z),q];simp⟩⟩
 by_cases hbe:b=e
 ·subst hbe;exact heo
 ·exact⟨u,k b u hbe q⟩
end
def trk (h:Heap) (H:Hp):List Addr:=(List.range h.objs.size).filter fun a=>(H a).isSome
def hidT (h:Heap) (H:Hp):Heap:=PySem.W.hideAll h (trk h H)
theorem Xc2 (h:Heap) (H:Hp):(hidT h H).objs.size=h.objs.size:=PySem.W.hideAll_size _ _
theorem Xa0 {h:Heap}{H:Hp}{b:Addr}{o:Obj} (e:h.get? b=some o) (n:H b=none):(hidT h H).get? b=some o :=
 PySem.W.hideAll_get _ e fun hm=>by
  have q:(H b).isSome=true:=(List.mem_filter.mp hm).2
  rw[n]at q;simp at q
theorem Yj1 {h:Heap}{H:Hp}{b:Addr}{o:Obj} (e:(hidT h H).get? b=some o):h.get? b=some o∧H b=none:=by
 have e':h.get? b=some o:=PySem.W.of_hideAll (trk h H) e
 refine⟨e',?_⟩
 cases q:H b with
 | none=>rfl
 | some x =>
  have hm:b∈trk h H:=List.mem_filter.mpr ⟨List.mem_range.mpr (Heap.lt_size e'),by simp[q]⟩
  have z:(hidT h H).get? b=none:=PySem.W.hideAll_none (trk h H) hm
  rw[z]at e;cases e
def Yj2 (g h:Heap) (L:Addr):List (Addr×Obj):=(List.range h.objs.size).filterMap fun a=>if a=L∨(g.get? a).isSome=true then none else (h.get? a).map fun o=>(a,o)
def rest (g h:Heap) (L d:Addr):List (Addr×Obj):=(Yj2 g h L).filter fun p=>decide (p.1≠d)
end L2
namespace L2
open PySem PySem.Spec PyProof.Rows
structure Mod (K:PySem.W.Frag) (mg:Str→Option Value) (base:Heap):Prop where
 kin:K.In base
 glob:base.Ns mainGlobals mg
 blt:∃mb,base.Ns builtinsNs mb∧∀x:Str,x ≠ "__name__" → mb x=bootBuiltins x
 nolimit:base.NoLimit
structure Cx where
 prog:Program
 w:World
 K:PySem.W.Frag
 mg:Str→Option Value
 base:Heap
 A:Around
 N:List Str
 s₀:Shared
 H₀:Hp
 env:Env
 outer:List Env
 stack:List Env
 ex:List Addr
 fn:Str→Bool
 calm:Bool
 pn:List (Addr×Obj)
 xe:Value→Shared→Prop
def frs (l:List Env):List Addr:=l.filterMap (·.frame)
abbrev Cx.fs (X:Cx):List Addr:=frs X.outer
def Vis (sc:Scope) (x:Str):Prop:=sc.names.lookup x=some .local∨sc.names.lookup x=some .cell∨sc.names.lookup x=some .free
def Loc (sc:Scope) (x:Str):Prop:=sc.names.lookup x=some .local∨sc.names.lookup x=some .cell
def Look (env:Env) (h:Heap) (m:Str→Option Value) (x:Str) (u:Value):Prop :=
 (env.kindOf x=some .local∧m x=some u)∨((env.kindOf x=some .cell∨env.kindOf x=some .free)∧∃c,env.cells.lookup x=some c∧h.IsCell c (some u))
structure Cx.Ok (X:Cx):Prop where
 mod:Mod X.K X.mg X.base
 kind:X.env.scope.kind=.function
 glob:X.env.globals=mainGlobals
 blt:X.env.builtins=builtinsNs
 above:X.s₀.heap.objs.size≤X.env.locals
 inj:∀x y c,X.env.cells.lookup x=some c→X.env.cells.lookup y=some c→x=y
 has:∀x,(X.env.kindOf x=some .cell∨X.env.kindOf x=some .free)→∃c,X.env.cells.lookup x=some c
 cab:∀x c,X.fn x=true→X.env.cells.lookup x=some c→X.s₀.heap.objs.size≤c
 hd:X.calm=true→X.A.handled=none
 frames:X.A.frames=some X.stack
 stk:X.stack=X.outer∨(X.stack=X.env::X.outer∧X.env.frame=some X.env.locals)
 exf:∀b∈X.ex,b≠X.env.locals∧∀x c,X.env.cells.lookup x=some c→c≠b
 bs:∀b o,X.base.get? b=some o→X.s₀.heap.get? b=some o∧X.H₀ b=none
 bsz:X.base.objs.size≤X.s₀.heap.objs.size
 noex:∀b o,X.base.get? b=some o→b∉X.ex
 exfs:∀b∈X.ex,b∉X.fs
 funs:X.s₀.heap.FunFrames X.base X.outer
 frf:∀b∈X.fs,X.H₀ b=none
structure Inv (X:Cx) (pins:List (Addr×Obj)) (σ:List (Option V)) (H:Hp) (s:Shared):Prop where
 ok:X.Ok
 os:s.os=X.s₀.os
 bare:AllBare s.gens
 base:Un X.fs X.ex X.H₀ H X.s₀.heap s.heap
 loc:∃m,s.heap.Ns X.env.locals m∧∀(i:Nat) (x:Str) (v:V),X.N[i]?=some x→σ[i]?=some (some v)→Vis X.env.scope x→∃u,RelV v u∧Look X.env s.heap m x u
 cell:∀x c,X.env.cells.lookup x=some c→∃v,s.heap.IsCell c v
 free:H X.env.locals=none
 freeC:∀x c,X.env.cells.lookup x=some c→H c=none
 pin:∀p∈X.pn++pins,s.heap.get? p.1=some p.2∧H p.1=none∧p.1≠X.env.locals∧p.1∉X.fs∧∀v,p.2.data≠.cell v
 hok:HOk X.prog X.w H s.heap
 len:σ.length=X.N.length
section
variable {X:Cx}{pins:List (Addr×Obj)}{σ:List (Option V)}{H H':Hp}{s:Shared}{h':Heap}
theorem Cx.Ok.nofr (ok:X.Ok) {b:Addr}{o:Obj} (e:X.base.get? b=some o):b∉X.fs:=fun hb=>by
 have:=(ok.funs.mem hb).1
 rw[e]at this;cases this
theorem Inv.bs (I:Inv X pins σ H s):∀b o,X.base.get? b=some o→s.heap.get? b=some o∧H b=none:=fun b o e =>
 ⟨I.base.keep b o (I.ok.bs b o e).1 (I.ok.bs b o e).2 (I.ok.nofr e) (I.ok.noex b o e),I.base.free b o (I.ok.bs b o e).1 (I.ok.bs b o e).2 (I.ok.noex b o e)⟩
theorem Inv.bk (I:Inv X pins σ H s):∀b o,X.base.get? b=some o→s.heap.get? b=some o:=fun b o e=>(I.bs b o e).1
theorem Inv.mod (I:Inv X pins σ H s):Mod X.K X.mg X.base:=I.ok.mod
theorem Inv.kIn (I:Inv X pins σ H s):X.K.In s.heap:=I.ok.mod.kin.keeps I.bk
theorem Inv.fr (I:Inv X pins σ H s):∃m,Fr X.base X.env.locals s.heap m :=
 let ⟨m,hn,_⟩:=I.loc
 ⟨m,hn,I.bk,Nat.le_trans I.ok.bsz I.ok.above⟩
theorem Inv.lt (I:Inv X pins σ H s):X.env.locals<s.heap.objs.size:=let ⟨_,hn,_⟩:=I.loc;hn.lt
theorem Inv.sz (I:Inv X pins σ H s):X.s₀.heap.objs.size≤s.heap.objs.size:=Nat.le_trans I.ok.above (Nat.le_of_lt I.lt)
theorem Inv.nofs (I:Inv X pins σ H s) {a:Addr} (h:s.heap.objs.size≤a):a∉X.fs:=fun hb=>by
 obtain⟨_,o,ho,_⟩:=I.ok.funs.mem hb
 exact absurd (Nat.lt_of_lt_of_le (Heap.lt_size ho) (Nat.le_trans I.sz h)) (Nat.lt_irrefl _)
theorem Inv.cne (I:Inv X pins σ H s):∀x c,X.env.cells.lookup x=some c→c≠X.env.locals:=fun x c e z=>by
 obtain⟨v,o,ho,hd⟩:=I.cell x c e
 obtain⟨m,⟨o',es,ep,ho',hd',_⟩,_⟩:=I.loc
 rw[z,ho']at ho;cases ho;rw[hd']at hd;cases hd
theorem Inv.funs (I:Inv X pins σ H s):s.heap.FunFrames X.base X.outer:=by
 have all:∀(l:List Env),(∀b∈frs l,b∈X.fs)→X.s₀.heap.FunFrames X.base l→s.heap.FunFrames X.base l:=by
  intro l
  induction l with
  | nil=>intro _ _;trivial
  | cons env r ih =>
   intro hs hl
   obtain⟨hk,⟨L,o,hf,hn,ho,hd⟩,hr⟩:=hl
   have hL:L∈X.fs:=hs L (by unfold frs;rw[List.filterMap_cons,hf];exact List.mem_cons_self)
   obtain⟨sl,e⟩:=I.base.slot L o ho (I.ok.frf L hL) hL fun z=>I.ok.exfs L z hL
   exact⟨hk,⟨L,_,hf,hn,e,hd⟩,ih (fun b hb=>hs b (by unfold frs;rw[List.filterMap_cons,hf];exact List.mem_cons_of_mem _ hb)) hr⟩
 exact all X.outer (fun _ hb=>hb) I.ok.funs
theorem Inv.stack (I:Inv X pins σ H s):s.heap.FunFrames X.base X.stack:=by
 rcases I.ok.stk with e|⟨e,hf⟩
 ·rw[e];exact I.funs
 ·rw[e]
  obtain⟨m,hn,_⟩:=I.loc
  refine .cons (by rw[I.ok.kind];decide) hf hn ?_ I.funs
  exact Heap.get?_none_of_le (Nat.le_trans I.ok.bsz I.ok.above)
theorem Inv.stkSub (I:Inv X pins σ H s):∀b∈frs X.stack,b∈X.env.locals::X.fs:=fun b hb=>by
 rcases I.ok.stk with e|⟨e,hf⟩
 ·rw[e]at hb;exact List.mem_cons_of_mem _ hb
 ·rw[e]at hb
  unfold frs at hb
  rw[List.filterMap_cons,hf]at hb
  exact hb
theorem Inv.stkFree (I:Inv X pins σ H s):∀b∈frs X.stack,H b=none:=fun b hb=>by
 rcases List.mem_cons.mp (I.stkSub b hb) with e|hb
 ·rw[e];exact I.free
 ·obtain⟨_,o,ho,_⟩:=I.ok.funs.mem hb
  exact I.base.free b o ho (I.ok.frf b hb) fun z=>I.ok.exfs b z hb
theorem Inv.step {g':Array GenState}{t':Nat}{d':Drawn}{ch:List Addr} (I:Inv X pins σ H s)
  (hch:∀b∈ch,(b∈X.ex∨X.s₀.heap.objs.size≤b)∧b≠X.env.locals∧(∀x c,X.env.cells.lookup x=some c→c≠b)∧∀p∈X.pn++pins,p.1≠b)
  (keep:∀b o,b≠X.env.locals→b∉X.fs→b∉ch→s.heap.get? b=some o→H b=none→h'.get? b=some o)
  (slot:∀b o,b≠X.env.locals→b∈X.fs→b∉ch→s.heap.get? b=some o→H b=none→∃sl,h'.get? b=some { o with slots:=sl }) (free:∀b o,b∉ch→s.heap.get? b=some o→H b=none→H' b=none)
  (there:∀b o,b∉ch→s.heap.get? b=some o→∃o',h'.get? b=some o')
  (tups:∀b xs,H b=some (.tup xs)→H' b=some (.tup xs)) (frzs:∀b o u,H b=some (.frz o u)→H' b=some (.frz o u)) (tbls:∀b ps,H b=some (.tbl ps)→∃more,H' b=some (.tbl (ps++more)))
  (ns:∀m,s.heap.Ns X.env.locals m→h'.Ns X.env.locals m) (hok:HOk X.prog X.w H' h') (hg:AllBare g') :
  Inv X pins σ H' { s with heap:=h',gens:=g',drawn:=d',toks:=t' }:=by
 have neL:∀b o,X.s₀.heap.get? b=some o→b≠X.env.locals:=fun b o e=>Nat.ne_of_lt (Nat.lt_of_lt_of_le (Heap.lt_size e) I.ok.above)
 have neC:∀b o,X.s₀.heap.get? b=some o→b∉X.ex→b∉ch:=fun b o e hx hb=>by
  rcases (hch b hb).1 with z|z
  ·exact hx z
  ·exact absurd (Nat.lt_of_lt_of_le (Heap.lt_size e) z) (Nat.lt_irrefl _)
 have cellK:∀x c,X.env.cells.lookup x=some c→∀v,s.heap.IsCell c v→h'.IsCell c v:=fun x c e v ⟨o,ho,hd⟩=>by
  have nch:c∉ch:=fun z=>(hch c z).2.2.1 x c e rfl
  by_cases hc:c∈X.fs
  ·obtain⟨sl,q⟩:=slot c o (I.cne x c e) hc nch ho (I.freeC x c e)
   exact⟨_,q,hd⟩
  ·exact⟨o,keep c o (I.cne x c e) hc nch ho (I.freeC x c e),hd⟩
 refine⟨I.ok,I.os,hg,⟨fun b o e n hb hx=>?_,fun b o e n hb hx=>?_,fun b o e n hx=>?_,fun b o e hx=>?_,fun b xs e=>tups b xs (I.base.tups b xs e),fun b o xs e=>frzs b o xs (I.base.frzs b o xs e),fun b ps e=>?_⟩,?_,fun x c e=>?_,?_,fun x c e=>?_,fun p hp=>?_,hok,I.len⟩
 ·exact keep b o (neL b o e) hb (neC b o e hx) (I.base.keep b o e n hb hx) (I.base.free b o e n hx)
 ·obtain⟨sl,e1⟩:=I.base.slot b o e n hb hx
  obtain⟨sl',e2⟩:=slot b _ (neL b o e) hb (neC b o e hx) e1 (I.base.free b o e n hx)
  exact⟨sl',e2⟩
 ·obtain⟨o',e1⟩:=I.base.there b o e hx
  exact free b o' (neC b o e hx) e1 (I.base.free b o e n hx)
 ·obtain⟨o',e1⟩:=I.base.there b o e hx
  exact there b o' (neC b o e hx) e1
 ·obtain⟨m1,e1⟩:=I.base.tbls b ps e
  obtain⟨m2,e2⟩:=tbls b _ e1
  exact⟨m1++m2,by rw[e2,Array.append_assoc]⟩
 ·obtain⟨m,hn,hl⟩:=I.loc
  refine⟨m,ns m hn,fun i x v e1 e2 e3=>?_⟩
  obtain⟨u,r,l⟩:=hl i x v e1 e2 e3
  refine⟨u,r,?_⟩
  rcases l with l|⟨k,c,e,z⟩
  ·exact .inl l
  ·exact .inr ⟨k,c,e,cellK x c e _ z⟩
 ·obtain⟨v,z⟩:=I.cell x c e
  exact⟨v,cellK x c e v z⟩
 ·obtain⟨m,⟨o,_,_,ho,_⟩,_⟩:=I.loc
  exact free _ o (fun z=>(hch _ z).2.1 rfl) ho I.free
 ·obtain⟨v,o,ho,hd⟩:=I.cell x c e
  exact free c o (fun z=>(hch c z).2.2.1 x c e rfl) ho (I.freeC x c e)
 ·obtain⟨e,n,ne,nf,d⟩:=I.pin p hp
  have nch:p.1∉ch:=fun z=>(hch p.1 z).2.2.2 p hp rfl
  exact⟨keep p.1 p.2 ne nf nch e n,free p.1 p.2 nch e n,ne,nf,d⟩
theorem Inv.un {t':Nat} (I:Inv X pins σ H s) (u:Un X.fs [] H H' s.heap h') (hok:HOk X.prog X.w H' h'):Inv X pins σ H' { s with heap:=h',toks:=t' }:=by
 obtain⟨m,⟨o,es,ep,ho,r⟩,_⟩:=id I.loc
 obtain⟨sl,hL⟩:=u.any ho I.free (by simp)
 exact I.step (g':=s.gens) (d':=s.drawn) (ch:=[]) (fun _ z=>nomatch z) (fun b o _ hb _ e n=>u.keep b o e n hb (by simp)) (fun b o _ hb _ e n=>u.slot b o e n hb (by simp)) (fun b o _ e n=>u.free b o e n (by simp)) (fun b o _ e=>u.there b o e (by simp)) u.tups u.frzs u.tbls (fun m' hm=>by
  obtain⟨o',es',ep',ho',r'⟩:=hm
  rw[ho]at ho';cases ho'
  exact⟨_,es',ep',hL,r'⟩) hok I.bare
theorem Inv.call {g':Array GenState}{t':Nat}{d':Drawn}{ch:List Addr} (I:Inv X pins σ H s) (u:Un (frs X.stack) ch H H' s.heap h') (hok:HOk X.prog X.w H' h') (hg:AllBare g')
  (hch:∀b∈ch,(b∈X.ex∨X.s₀.heap.objs.size≤b)∧b≠X.env.locals∧(∀x c,X.env.cells.lookup x=some c→c≠b)∧∀p∈X.pn++pins,p.1≠b) :
  Inv X pins σ H' { s with heap:=h',gens:=g',drawn:=d',toks:=t' }:=by
 obtain⟨m,⟨o,es,ep,ho,r⟩,_⟩:=id I.loc
 obtain⟨sl,hL⟩:=u.any ho I.free fun z=>(hch _ z).2.1 rfl
 exact I.step (ch:=ch) hch (fun b o hL hb hc e n=>u.keep b o e n (fun z=>(List.mem_cons.mp (I.stkSub b z)).elim hL hb) hc) (fun b o _ _ hc e n=>u.any e n hc) (fun b o hc e n=>u.free b o e n hc) (fun b o hc e=>u.there b o e hc) u.tups u.frzs u.tbls (fun m' hm=>by
  obtain⟨o',es',ep',ho',r'⟩:=hm
  rw[ho]at ho';cases ho'
  exact⟨_,es',ep',hL,r'⟩) hok hg
theorem Inv.turned {t':Nat}{it:Addr} (I:Inv X pins σ H s) (k:∀b o,b≠it→s.heap.get? b=some o→h'.get? b=some o) (hn:H it=none) (hL:it≠X.env.locals)
  (h1:it∈X.ex∨X.s₀.heap.objs.size≤it) (h2:∀x c,X.env.cells.lookup x=some c→c≠it) (h3:∀p∈X.pn++pins,p.1≠it):Inv X pins σ H { s with heap:=h',toks:=t' }:=by
 have nit:∀b u,H b=some u→b≠it:=fun b u e z=>by rw[z,hn]at e;cases e
 refine I.step (g':=s.gens) (d':=s.drawn) (ch:=[it]) (fun b hb=>?_) (fun b o _ _ hc e _=>k b o (fun z=>hc (by simp[z])) e) (fun b o _ _ hc e _=>⟨o.slots,k b o (fun z=>hc (by simp[z])) e⟩) (fun _ _ _ _ n=>n)
  (fun b o hc e=>⟨o,k b o (fun z=>hc (by simp[z])) e⟩) (fun _ _ e=>e) (fun _ _ _ e=>e) (fun b ps e=>⟨#[],by rw[e];simp⟩) (fun m hm=>?_) (fun b u e=>?_) I.bare
 ·have e:b=it:=by simpa using hb
  subst e
  exact⟨h1,hL,h2,h3⟩
 ·obtain⟨o,es,ep,ho,r⟩:=hm
  exact⟨o,es,ep,k _ o (Ne.symm hL) ho,r⟩
 ·refine(I.hok b u e).stay (fun c v hc q=>k c v ?_ q) (fun _ q=>q) fun _ _ q=>q
  rcases hc with z|z
  ·rw[z];exact nit b u e
  ·exact nit c _ z
theorem Inv.tok (I:Inv X pins σ H s) (t:Nat):Inv X pins σ H { s with toks:=t }:=I.un (h':=s.heap) (t':=t) Un.refl I.hok
theorem Inv.kept {t':Nat} (I:Inv X pins σ H s) (k:∀b u,s.heap.get? b=some u→h'.get? b=some u):Inv X pins σ H { s with heap:=h',toks:=t' }:=I.un (Un.kept k) (I.hok.kept k)
theorem Inv.laid {a:Addr}{o:HO}{t':Nat} (I:Inv X pins σ H s) (k:∀b u,s.heap.get? b=some u→h'.get? b=some u) (hp:s.heap.objs.size≤a) (new:Qv5 X.prog X.w (upd H a o) h' a o) :
  Inv X pins σ (upd H a o) { s with heap:=h',toks:=t' }:=I.un (Un.laid k hp (I.hok.fresh hp)) (I.hok.laid k hp new)
theorem Inv.write {x e:Addr}{o:HO}{t':Nat} (I:Inv X pins σ H s) (mu:Mut (H x)) (he:e=x∨H e=some (.own x)) (k:∀b u,b≠e→s.heap.get? b=some u→h'.get? b=some u) (heo:∃u,h'.get? e=some u)
  (new:Qv5 X.prog X.w (upd H x o) h' x o):Inv X pins σ (upd H x o) { s with heap:=h',toks:=t' }:=I.un (Un.write mu he k heo) (I.hok.write mu he k heo new)
theorem Inv.weak {σ':List (Option V)} (I:Inv X pins σ H s) (hl:σ'.length=σ.length) (w:∀(i:Nat) v,σ'[i]?=some (some v)→σ[i]?=some (some v)):Inv X pins σ' H s :=
 ⟨I.ok,I.os,I.bare,I.base,let ⟨m,hn,hl'⟩:=I.loc;⟨m,hn,fun i x v e1 e2 e3=>hl' i x v e1 (w i v e2) e3⟩,I.cell,I.free,I.freeC,I.pin,I.hok,hl.trans I.len⟩
theorem Inv.pins_of {pins':List (Addr×Obj)} (I:Inv X pins σ H s) (h:∀p∈pins',s.heap.get? p.1=some p.2∧H p.1=none∧p.1≠X.env.locals∧p.1∉X.fs∧∀v,p.2.data≠.cell v):Inv X pins' σ H s :=
 ⟨I.ok,I.os,I.bare,I.base,I.loc,I.cell,I.free,I.freeC,fun p hp=>(List.mem_append.mp hp).elim (fun z=>I.pin p (List.mem_append_left _ z)) (h p),I.hok,I.len⟩
theorem Xv3 {N:List Str} (hN:N.Nodup) {i j:Nat}{x:Str} (a:N[i]?=some x) (b:N[j]?=some x):i=j:=by
 obtain⟨h1,e1⟩:=List.getElem?_eq_some_iff.mp a
 obtain⟨h2,e2⟩:=List.getElem?_eq_some_iff.mp b
 exact(List.getElem_inj hN).mp (e1.trans e2.symm)
theorem Xq6 {M:Model}{A:Around}{E:Value→Shared→Prop}{i:Nat}{x:Str}{v:V}{u:Value}{Q:Unit→Shared→Prop} (I:Inv X pins σ H s) (hN:X.N.Nodup) (hi:X.N[i]?=some x) (hx:Loc X.env.scope x) (r:RelV v u)
  (h:∀s',Inv X pins (σ.set i (some v)) H s'→(∃a,Heap.SameBut a s.heap s'.heap∧(a=X.env.locals∨X.env.cells.lookup x=some a))→Q () s') (hf:X.fn x=true∨X.env.scope.names.lookup x=some .local:=by first|exact .inl rfl|exact .inr rfl|assumption):wpAny M A (storeName X.env x u) Q E s:=by
 obtain⟨m,hn,hl⟩:=id I.loc
 have hcls:(X.env.scope.kind==.class||(X.env.scope.kind==.module&&X.env.locals != X.env.globals))=false:=by rw[I.ok.kind];rfl
 have hiσ:i<σ.length:=by rw[I.len];exact(List.getElem?_eq_some_iff.mp hi).1
 have cne:=I.cne
 have tracked:∀{a:Addr}{h':Heap},(∃o,s.heap.get? a=some o∧H a=none)→Heap.SameBut a s.heap h'→HOk X.prog X.w H h':=fun {a h'} ha hs b ob e=>by
  obtain⟨_,_,hfree⟩:=ha
  refine(I.hok b ob e).stay (fun c w' hc q=>(hs.2 c ?_).trans q) (fun _ q=>q) fun _ _ q=>q
  rintro rfl
  rcases hc with rfl|hc
  ·rw[hfree]at e;cases e
  ·rw[hfree]at hc;cases hc
 rcases hx with hk|hk
 ·refine wpAny_storeName_local hk hn (fun h' hn' hs=>?_) hcls
  obtain⟨oL,_,_,hoL,_⟩:=id hn
  refine h _ ⟨I.ok,I.os,I.bare,⟨fun b o e n hb hx=>?_,fun b o e n hb hx=>?_,I.base.free,fun b o e hx=>?_,I.base.tups,I.base.frzs,I.base.tbls⟩,⟨_,hn',fun j y v' e1 e2 e3=>?_⟩,fun y c e=>?_,I.free,I.freeC,fun p hp=>?_,tracked ⟨oL,hoL,I.free⟩ hs,by simpa using I.len⟩ ⟨_,hs,.inl rfl⟩
  ·exact(hs.2 b (Nat.ne_of_lt (Nat.lt_of_lt_of_le (Heap.lt_size e) I.ok.above))).trans (I.base.keep b o e n hb hx)
  ·obtain⟨sl,e1⟩:=I.base.slot b o e n hb hx
   exact⟨sl,(hs.2 b (Nat.ne_of_lt (Nat.lt_of_lt_of_le (Heap.lt_size e) I.ok.above))).trans e1⟩
  ·obtain⟨o',e1⟩:=I.base.there b o e hx
   exact⟨o',(hs.2 b (Nat.ne_of_lt (Nat.lt_of_lt_of_le (Heap.lt_size e) I.ok.above))).trans e1⟩
  ·by_cases hj:j=i
   ·subst hj
    rw[hi]at e1;cases e1
    rw[List.getElem?_set_self hiσ]at e2
    cases e2
    exact⟨u,r,.inl ⟨hk,by simp⟩⟩
   ·rw[List.getElem?_set_ne (Ne.symm hj)]at e2
    obtain⟨u',r',q⟩:=hl j y v' e1 e2 e3
    refine⟨u',r',?_⟩
    rcases q with ⟨k,e⟩|⟨k,c,e,z⟩
    ·refine .inl ⟨k,?_⟩
     have:y≠x:=fun e=>hj (Xv3 hN e1 (e▸hi))
     simp[this,e]
    ·exact .inr ⟨k,c,e,z.sameBut hs (cne y c e)⟩
  ·obtain⟨w',z⟩:=I.cell y c e
   exact⟨w',z.sameBut hs (cne y c e)⟩
  ·obtain⟨e,n,ne,nf,d⟩:=I.pin p hp
   exact⟨(hs.2 p.1 ne).trans e,n,ne,nf,d⟩
 ·have hfn:X.fn x=true:=by
   rcases hf with z|z
   ·exact z
   ·rw[z]at hk;cases hk
  obtain⟨c,hc⟩:=I.ok.has x (.inl hk)
  obtain⟨w',z⟩:=I.cell x c hc
  refine wpAny_storeName_cell I.ok.kind hk hc z (fun h' hc' hs=>?_)
  obtain⟨oc,hoc,hocd⟩:=id z
  refine h { s with heap:=h' } ⟨I.ok,I.os,I.bare,⟨fun b o e n hb hx=>?_,fun b o e n hb hx=>?_,I.base.free,fun b o e hx=>?_,I.base.tups,I.base.frzs,I.base.tbls⟩,⟨m,hn.sameBut hs (Ne.symm (cne x c hc)),fun j y v' e1 e2 e3=>?_⟩,fun y c' e=>?_,I.free,I.freeC,fun p hp=>?_,tracked ⟨oc,hoc,I.freeC x c hc⟩ hs,by simpa using I.len⟩ ⟨c,hs,.inr hc⟩
  ·exact(hs.2 b (Nat.ne_of_lt (Nat.lt_of_lt_of_le (Heap.lt_size e) (I.ok.cab x c hfn hc)))).trans (I.base.keep b o e n hb hx)
  ·obtain⟨sl,e1⟩:=I.base.slot b o e n hb hx
   exact⟨sl,(hs.2 b (Nat.ne_of_lt (Nat.lt_of_lt_of_le (Heap.lt_size e) (I.ok.cab x c hfn hc)))).trans e1⟩
  ·obtain⟨o',e1⟩:=I.base.there b o e hx
   exact⟨o',(hs.2 b (Nat.ne_of_lt (Nat.lt_of_lt_of_le (Heap.lt_size e) (I.ok.cab x c hfn hc)))).trans e1⟩
  ·by_cases hj:j=i
   ·subst hj
    rw[hi]at e1;cases e1
    rw[List.getElem?_set_self hiσ]at e2
    cases e2
    exact⟨u,r,.inr ⟨.inl hk,c,hc,hc'⟩⟩
   ·rw[List.getElem?_set_ne (Ne.symm hj)]at e2
    obtain⟨u',r',q⟩:=hl j y v' e1 e2 e3
    refine⟨u',r',?_⟩
    rcases q with q|⟨k,c',e,z'⟩
    ·exact .inl q
    ·refine .inr ⟨k,c',e,z'.sameBut hs ?_⟩
     rintro rfl
     exact hj (Xv3 hN e1 (I.ok.inj _ _ _ e hc▸hi))
  ·by_cases hcc:c'=c
   ·subst hcc;exact⟨_,hc'⟩
   ·obtain⟨w2,z2⟩:=I.cell y c' e
    exact⟨w2,z2.sameBut hs hcc⟩
  ·obtain⟨e,n,ne,nf,d⟩:=I.pin p hp
   refine⟨(hs.2 p.1 ?_).trans e,n,ne,nf,d⟩
   intro q
   rw[q,hoc]at e
   have q':oc=p.2:=Option.some.inj e
   exact d w' (by rw[←q'];exact hocd)
theorem Xv4 {M:Model}{A:Around}{E:Value→Shared→Prop}{i:Nat}{x:Str}{v:V}{u:Value}{Q:Unit→Shared→Prop} (I:Inv X pins σ H s) (hN:X.N.Nodup) (hi:X.N[i]?=some x) (hx:Loc X.env.scope x) (r:RelV v u)
  (h:∀s',Inv X pins (σ.set i (some v)) H s'→Q () s') (hf:X.fn x=true∨X.env.scope.names.lookup x=some .local:=by first|exact .inl rfl|exact .inr rfl|assumption):wpAny M A (storeName X.env x u) Q E s :=
 Xq6 I hN hi hx r (fun s' I' _=>h s' I') hf
theorem Inv.call' {s':Shared}{ch:List Addr} (I:Inv X pins σ H s) (ho:s'.os=s.os) (u:Un (frs X.stack) ch H H' s.heap s'.heap) (hok:HOk X.prog X.w H' s'.heap) (hg:AllBare s'.gens)
  (hch:∀b∈ch,(b∈X.ex∨X.s₀.heap.objs.size≤b)∧b≠X.env.locals∧(∀x c,X.env.cells.lookup x=some c→c≠b)∧∀p∈X.pn++pins,p.1≠b):Inv X pins σ H' s':=by
 obtain⟨h',g',d',t',o'⟩:=s'
 have e:o'=s.os:=ho
 subst e
 exact I.call (g':=g') (t':=t') (d':=d') u hok hg hch
end
abbrev XK:=Value→Option Addr→Hp→Prop
abbrev St:=List (Option V)
abbrev VK:=V→Hp→Prop
abbrev TE:=St→Hp→VK→Prop
abbrev TT:=St→Hp→(Bool→Hp→Prop)→Prop
abbrev TA:=St→Hp→(List V→Hp→Prop)→Prop
structure Ends where
 nx:St→Hp→Prop
 rt:VK
 bk:St→Hp→Prop:=fun _ _=>False
 ct:St→Hp→Prop:=fun _ _=>False
abbrev TS:=Ends→St→Hp→Prop
def EP (X:Cx) (pins:List (Addr×Obj)) (σ:St) (Q:VK) (u:Value) (s':Shared):Prop:=∃v H',Inv X pins σ H' s'∧RelV v u∧Q v H'
def TP (X:Cx) (pins:List (Addr×Obj)) (σ:St) (Q:Bool→Hp→Prop) (b:Bool) (s':Shared):Prop:=∃H',Inv X pins σ H' s'∧Q b H'
def AP (X:Cx) (pins:List (Addr×Obj)) (σ:St) (Q:List V→Hp→Prop) (us:List Value) (s':Shared):Prop:=∃vs H',Inv X pins σ H' s'∧Vals vs us∧Q vs H'
def SP (X:Cx) (pins:List (Addr×Obj)) (D:Ends) (f:Flow) (s':Shared):Prop :=
 match f with
 | .next=>∃σ' H',Inv X pins σ' H' s'∧D.nx σ' H'
 | .brk=>∃σ' H',Inv X pins σ' H' s'∧D.bk σ' H'
 | .cont=>∃σ' H',Inv X pins σ' H' s'∧D.ct σ' H'
 | .ret u=>∃v σ' H',Inv X pins σ' H' s'∧RelV v u∧D.rt v H'
def PE (X:Cx) (e:Expr) (t:TE):Prop :=
 ∀(pins:List (Addr×Obj)) (s:Shared) (σ:St) (H:Hp) (Q:VK),Inv X pins σ H s→t σ H Q→wpAny (model X.prog X.w) X.A (eval e X.env) (EP X pins σ Q) X.xe s
def PT (X:Cx) (e:Expr) (t:TT):Prop :=
 ∀(pins:List (Addr×Obj)) (s:Shared) (σ:St) (H:Hp) (Q:Bool→Hp→Prop),Inv X pins σ H s→t σ H Q→wpAny (model X.prog X.w) X.A (isTrue e X.env (eval e X.env)) (TP X pins σ Q) X.xe s
def PW (X:Cx) (e:Expr) (t:TT):Prop :=
 ∀(whole:Sem Value) (pins:List (Addr×Obj)) (s:Shared) (σ:St) (H:Hp) (Q:Bool→Hp→Prop),Inv X pins σ H s→t σ H Q→wpAny (model X.prog X.w) X.A (isTrue e X.env whole) (TP X pins σ Q) X.xe s
theorem PW.pt {X:Cx}{e:Expr}{t:TT} (h:PW X e t):PT X e t:=h _
def PA (X:Cx) (es:List Expr) (t:TA):Prop :=
 ∀(pos:Pos) (pins:List (Addr×Obj)) (s:Shared) (σ:St) (H:Hp) (Q:List V→Hp→Prop),Inv X pins σ H s→t σ H Q→wpAny (model X.prog X.w) X.A (spliced (backTo pos (starEach es X.env))) (AP X pins σ Q) X.xe s
def PS (X:Cx) (st:Stmt) (t:TS):Prop :=
 ∀(pins:List (Addr×Obj)) (s:Shared) (σ:St) (H:Hp) (D:Ends),Inv X pins σ H s→t D σ H→wpAny (model X.prog X.w) X.A (exec st X.env) (SP X pins D) X.xe s
def PSs (X:Cx) (st:List Stmt) (t:TS):Prop :=
 ∀(pins:List (Addr×Obj)) (s:Shared) (σ:St) (H:Hp) (D:Ends),Inv X pins σ H s→t D σ H→wpAny (model X.prog X.w) X.A (execs st X.env) (SP X pins D) X.xe s
theorem thn {α:Type}{t:Sem α}{Q Q':α→Shared→Prop}{M:Model}{A:Around}{E:Value→Shared→Prop}{s:Shared} (h:wpAny M A t Q E s) (hQ:∀a s,Q a s→Q' a s):wpAny M A t Q' E s:=wpAny_mono h hQ fun _ _ x=>x
end L2
namespace L2
open PySem PySem.Spec PyProof.Rows
section
variable {X:Cx}
def tVar (i:Nat):TE:=fun σ H Q=>∃v,σ[i]?=some (some v)∧Q v H
def tC (v:V):TE:=fun _ H Q=>Q v H
theorem Yg1 {i:Nat}{x:Str}{pos:Pos} (hN:X.N[i]?=some x) (hv:Vis X.env.scope x) (hd:(x==("__debug__" : Str))=false:=by decide) (hcd:(x==("__classdict__" : Str))=false:=by decide):PE X (.Name x pos) (tVar i):=by
 intro pins s σ H Q I h
 obtain⟨v,e,h⟩:=h
 obtain⟨m,hn,hl⟩:=I.loc
 obtain⟨u,r,l⟩:=hl i x v hN e hv
 have fin:EP X pins σ Q u s:=⟨v,H,I,r,h⟩
 rcases l with ⟨hk,hm⟩|⟨hk,c,hc,hcell⟩
 ·exact wpAny_Name (wpAny_loadName_local I.ok.kind hk hn hm fin) hd
 ·rcases hk with hk|hk
  ·exact wpAny_Name (wpAny_loadName_cell I.ok.kind hk hc hcell fin) hd
  ·exact wpAny_Name (wpAny_loadName_free I.ok.kind hk hc hcell fin hcd) hd
theorem Qq6 {i j pos}:PE X (.Constant (.int i) j pos) (tC (.int i)):=fun _ _ _ H _ I h=>wpAny_Constant_int ⟨.int i,H,I.tok _,⟨_,rfl⟩,h⟩
theorem Zz5 {b j pos}:PE X (.Constant (.bool b) j pos) (tC (.bl b)):=fun _ _ _ H _ I h=>Constant_bool ⟨.bl b,H,I,rfl,h⟩
theorem Qg4 {j pos}:PE X (.Constant .none j pos) (tC .non):=fun _ _ _ H _ I h=>Constant_none ⟨.non,H,I,rfl,h⟩
theorem Qy7 {x j pos}:PE X (.Constant (.str x) j pos) (tC (.str x)):=fun _ _ _ H _ I h=>Calls.Constant_str ⟨.str x,H,I.tok _,⟨_,rfl⟩,h⟩
def Gl (X:Cx) (x:Str):Prop:=X.env.kindOf x=some .globalImplicit
theorem Xp1 {E:Value→Shared→Prop}{pins:List (Addr×Obj)}{s:Shared}{σ:St}{H:Hp}{x:Str}{u:Value}{pos:Pos}{Q:Value→Shared→Prop} (I:Inv X pins σ H s) (hg:Gl X x) (hm:X.mg x=some u) (h:Q u s)
  (hd:(x==("__debug__" : Str))=false:=by decide):wpAny (model X.prog X.w) X.A (eval (.Name x pos) X.env) Q E s :=
 Calls.Name_function_global I.ok.kind hg (Calls.loadGlobal_global (by rw[I.ok.glob];exact I.mod.glob.keeps I.bk) hm h) hd
theorem Qt4 {E:Value→Shared→Prop}{pins:List (Addr×Obj)}{s:Shared}{σ:St}{H:Hp}{x:Str}{u:Value}{pos:Pos}{Q:Value→Shared→Prop} (I:Inv X pins σ H s) (hg:Gl X x) (hm:X.mg x=none) (hv:bootBuiltins x=some u) (h:Q u s)
  (hn:x ≠ "__name__" := by decide) (hd:(x==("__debug__" : Str))=false:=by decide):wpAny (model X.prog X.w) X.A (eval (.Name x pos) X.env) Q E s:=by
 obtain⟨mb,h1,h2⟩:=I.mod.blt
 exact Calls.Name_function_global I.ok.kind hg (Calls.loadGlobal_builtin (by rw[I.ok.glob];exact I.mod.glob.keeps I.bk) hm (by rw[I.ok.blt];exact h1.keeps I.bk) ((h2 x hn).trans hv) h) hd
theorem Zj0 {x:Str}{v:V}{u:Value}{pos:Pos} (hg:Gl X x) (hm:X.mg x=none) (hv:bootBuiltins x=some u) (r:RelV v u) (hn:x ≠ "__name__" := by decide) (hd:(x==("__debug__" : Str))=false:=by decide):PE X (.Name x pos) (tC v) :=
 fun _ _ _ H _ I h=>Qt4 I hg hm hv ⟨v,H,I,r,h⟩ hn hd
variable {a b:Expr}{ta tb:TE}{pos:Pos}
def PC (X:Cx) (op:CmpOp) (a b:Expr) (t:TE):Prop :=
 ∀(pins:List (Addr×Obj)) (s:Shared) (σ:St) (H:Hp) (Q:VK),Inv X pins σ H s→t σ H Q →
  wpAny (model X.prog X.w) X.A (eval a X.env) (fun v s₁=>wpAny (model X.prog X.w) X.A (eval b X.env) (fun u s₂=>wpAny (model X.prog X.w) X.A (compareOp op v u) (EP X pins σ Q) X.xe s₂) X.xe s₁) X.xe s
def tB (t:TE):TT:=fun σ H Q=>t σ H fun x H1=>∃c,x=.bl c∧Q c H1
theorem Xc3 {op:CmpOp}{t:TE} (h:PC X op a b t) (h1:behindInMarks op b=false:=by first|exact nobehind _ (by decide) (by decide)|rfl):PT X (.Compare a [op] [b] pos) (tB t):=by
 intro pins s σ H Q I hw
 refine wpAny_isTrue_Compare1 (thn (h pins s σ H _ I hw) fun v s1 h1=>thn h1 fun u s2 h2=>thn h2 fun c s3 ⟨x,H1,I1,r1,q1⟩=>?_) h1
 obtain⟨d,rfl,q⟩:=q1
 cases r1
 exact wpAny_truthy_bool ⟨H1,I1,q⟩
theorem Qt5 {e:Expr}{t:TE} (h:PE X e t) (he:∀whole,isTrue e X.env whole=(do let v ←whole;standAt e.pos;holding [v] (truthy v)):=by intro _;rfl):PT X e (tB t):=by
 intro pins s σ H Q I hw
 refine isTrue_plain (thn (h pins s σ H _ I hw) fun v s1 ⟨x,H1,I1,r1,q1⟩=>?_) (he _)
 obtain⟨d,rfl,q⟩:=q1
 cases r1
 exact wpAny_truthy_bool ⟨H1,I1,q⟩
variable {tA tB':TT}{rest:List Expr}
def tAnd (t u:TT):TT:=fun σ H Q=>t σ H fun c H1=>if c=true then u σ H1 Q else Q false H1
def tOr (t u:TT):TT:=fun σ H Q=>t σ H fun c H1=>if c=true then Q true H1 else u σ H1 Q
def tNot (t:TT):TT:=fun σ H Q=>t σ H fun c H1=>Q (!c) H1
theorem Zo9 (ha:PT X a tA):PW X (.BoolOp .And [a] pos) tA:=by
 intro wh pins s σ H Q I h
 refine isTrue_and (thn (ha pins s σ H Q I h) fun c s1 e=>?_)
 cases c with
 | true=>exact isTrue_and_nil e
 | false=>exact e
theorem Qr1 (ha:PT X a tA):PW X (.BoolOp .Or [a] pos) tA:=by
 intro wh pins s σ H Q I h
 refine isTrue_or (thn (ha pins s σ H Q I h) fun c s1 e=>?_)
 cases c with
 | false=>exact isTrue_or_nil e
 | true=>exact e
theorem Xv5 (ha:PT X a tA) (hb:PW X (.BoolOp .And (b::rest) pos) tB'):PW X (.BoolOp .And (a::b::rest) pos) (tAnd tA tB'):=by
 intro wh pins s σ H Q I h
 refine isTrue_and (thn (ha pins s σ H _ I h) fun c s1 ⟨H1,I1,q1⟩=>?_)
 cases c with
 | true=>exact hb wh pins s1 σ H1 Q I1 q1
 | false=>exact⟨H1,I1,q1⟩
theorem Ql5 (ha:PT X a tA) (hb:PW X (.BoolOp .Or (b::rest) pos) tB'):PW X (.BoolOp .Or (a::b::rest) pos) (tOr tA tB'):=by
 intro wh pins s σ H Q I h
 refine isTrue_or (thn (ha pins s σ H _ I h) fun c s1 ⟨H1,I1,q1⟩=>?_)
 cases c with
 | true=>exact⟨H1,I1,q1⟩
 | false=>exact hb wh pins s1 σ H1 Q I1 q1
theorem Qr2 (ha:PT X a tA):PT X (.UnaryOp .Not a pos) (tNot tA):=by
 intro pins s σ H Q I h
 exact isTrue_not (ha pins s σ H (fun c H1=>Q (!c) H1) I h)
def Yp2 (ta tb:TE):TE:=fun σ H Q=>ta σ H fun x H1=>∃c,x=.bl c∧if c=true then tb σ H1 Q else Q (.bl false) H1
def Yp3 (ta:TE):TE:=fun σ H Q=>ta σ H fun x H1=>∃c,x=.bl c∧Q (.bl (!c)) H1
theorem Xv6 {op}{t:TE} (h:PE X a t):PE X (.BoolOp op [a] pos) t:=fun pins s σ H Q I hw=>BoolOp_one (h pins s σ H Q I hw)
theorem Xv7 (ha:PE X a ta) (hb:PE X (.BoolOp .And (b::rest) pos) tb):PE X (.BoolOp .And (a::b::rest) pos) (Yp2 ta tb):=by
 intro pins s σ H Q I h
 refine BoolOp_and (thn (ha pins s σ H _ I h) fun v s1 ⟨x,H1,I1,r1,q1⟩=>?_)
 obtain⟨c,rfl,q1⟩:=q1
 cases r1
 refine wpAny_truthy_bool ?_
 cases c with
 | true=>exact hb pins s1 σ H1 Q I1 q1
 | false=>exact⟨.bl false,H1,I1,rfl,q1⟩
theorem Yg2 (ha:PE X a ta):PE X (.UnaryOp .Not a pos) (Yp3 ta):=by
 intro pins s σ H Q I h
 refine UnaryOp_ (thn (ha pins s σ H _ I h) fun v s1 ⟨x,H1,I1,r1,q1⟩=>?_)
 obtain⟨c,rfl,q1⟩:=q1
 cases r1
 exact not_of (wpAny_truthy_bool ⟨.bl (!c),H1,I1,rfl,q1⟩)
def tIf (t:TT) (ta tb:TE):TE:=fun σ H Q=>t σ H fun c H1=>if c=true then ta σ H1 Q else tb σ H1 Q
theorem Zk1 {c:Expr} (hc:PT X c tA) (ha:PE X a ta) (hb:PE X b tb):PE X (.IfExp c a b pos) (tIf tA ta tb):=by
 intro pins s σ H Q I h
 refine wpAny_IfExp (thn (hc pins s σ H _ I h) fun d s1 ⟨H1,I1,q1⟩=>?_)
 cases d with
 | true=>exact ha pins s1 σ H1 Q I1 q1
 | false=>exact hb pins s1 σ H1 Q I1 q1
end
end L2
namespace L2
open PySem PySem.Spec PyProof.Rows
def SqL (K:PySem.W.Frag) (H:Hp) (a:Addr) (xs:List V):Prop :=
 Rd H a (.lst xs) ∨
  ∃(o:Obj) (its:Array Value) (n:Nat),K.lookup a=some o∧o.cls=.type "list" ∧ o.dict=none∧o.data=.seq its n∧its.size≤sizeLine∧Vals xs its.toList
def SqT (K:PySem.W.Frag) (H:Hp) (a:Addr) (xs:List V):Prop :=
 Rd H a (.tup xs) ∨
  ∃(o:Obj) (its:Array Value) (n:Nat),K.lookup a=some o∧o.cls=.type "tuple" ∧ o.data=.seq its n∧its.size≤sizeLine∧Vals xs its.toList
def absV:Value→Option V
 | .none=>some .non
 | .bool b=>some (.bl b)
 | .int i _=>some (.int i)
 | .str x _=>some (.str x)
 | .bytes b _=>some (.byt b)
 | .float b _=>some (.flt b)
 | .ref a=>some (.ref a)
 | .type n=>some (.ty n)
 | _=>none
theorem RelV.abs {x:V}{u:Value} (r:RelV x u):absV u=some x:=by
 cases x with
 | non=>cases r;rfl
 | bl _=>cases r;rfl
 | int _=>obtain⟨t,rfl⟩:=r;rfl
 | str _=>obtain⟨t,rfl⟩:=r;rfl
 | byt _=>obtain⟨t,rfl⟩:=r;rfl
 | flt _=>obtain⟨t,rfl⟩:=r;rfl
 | ref _=>cases r;rfl
 | ty _=>cases r;rfl
theorem RelV.inj {x y:V}{u:Value} (r:RelV x u) (q:RelV y u):x=y:=Option.some.inj (r.abs.symm.trans q.abs)
theorem Vals.inj:∀{xs ys:List V}{us:List Value},Vals xs us→Vals ys us→xs=ys
 | _,_,_,.nil,.nil=>rfl
 | _,_,_,.cons r t,.cons r' t'=>by rw[r.inj r',Vals.inj t t']
section
variable {X:Cx}{pins:List (Addr×Obj)}{σ:St}{H:Hp}{s:Shared}{a:Addr}{xs ys:List V}
theorem SqL.of {K:PySem.W.Frag} (h:H a=some (.lst xs)):SqL K H a xs:=.inl (.inl h)
theorem SqT.of {K:PySem.W.Frag} (h:H a=some (.tup xs)):SqT K H a xs:=.inl (.inl h)
theorem Inv.list (I:Inv X pins σ H s) (h:SqL X.K H a xs):∃its:List Value,Vals xs its∧PlainL s.heap a its.toArray∧xs.length≤sizeLine:=by
 rcases h with h|⟨o,its,n,hk,hc,hd,hs,hz,r⟩
 ·obtain⟨z,its,n,r,e⟩:=h.ok I.hok
  exact⟨its,r,⟨_,n,e,rfl,rfl,rfl⟩,z⟩
 ·refine⟨its.toList,r,⟨o,n,I.kIn a o hk,hc,hd,by simpa using hs⟩,?_⟩
  have e:=r.length
  simp only[Array.length_toList]at e
  omega
theorem Inv.tuple (I:Inv X pins σ H s) (h:SqT X.K H a xs):∃its:List Value,Vals xs its∧IsTup s.heap a its.toArray∧xs.length≤sizeLine:=by
 rcases h with h|⟨o,its,n,hk,hc,hs,hz,r⟩
 ·obtain⟨z,its,r,p⟩:=h.ok I.hok
  exact⟨its,r,p,z⟩
 ·refine⟨its.toList,r,⟨o,I.kIn a o hk,hc,n,by simpa using hs⟩,?_⟩
  have e:=r.length
  simp only[Array.length_toList]at e
  omega
theorem Inv.list_inj (I:Inv X pins σ H s) (h:SqL X.K H a xs) (h':SqL X.K H a ys):xs=ys:=by
 obtain⟨its,r,⟨o,n,e,_,_,d⟩,_⟩:=I.list h
 obtain⟨its',r',⟨o',n',e',_,_,d'⟩,_⟩:=I.list h'
 rw[e]at e';cases e'
 rw[d]at d'
 injection d' with d1 _
 have:its=its':=by simpa using congrArg Array.toList d1
 subst this
 exact r.inj r'
theorem Inv.tuple_inj (I:Inv X pins σ H s) (h:SqT X.K H a xs) (h':SqT X.K H a ys):xs=ys:=by
 obtain⟨its,r,⟨o,e,_,n,d⟩,_⟩:=I.tuple h
 obtain⟨its',r',⟨o',e',_,n',d'⟩,_⟩:=I.tuple h'
 rw[e]at e';cases e'
 rw[d]at d'
 injection d' with d1 _
 have:its=its':=by simpa using congrArg Array.toList d1
 subst this
 exact r.inj r'
end
abbrev Cx.wish (X:Cx) (E:Value→Shared→Prop):Cx:={ X with xe:=E }
abbrev Cx.nox (X:Cx):Cx:=X.wish fun _ _=>False
theorem Cx.Ok.wish {X:Cx} (ok:X.Ok) (E:Value→Shared→Prop):(X.wish E).Ok :=
 ⟨ok.mod,ok.kind,ok.glob,ok.blt,ok.above,ok.inj,ok.has,ok.cab,ok.hd,ok.frames,ok.stk,ok.exf,ok.bs,ok.bsz,ok.noex,ok.exfs,ok.funs,ok.frf⟩
theorem Cx.Ok.unwish {X:Cx}{E:Value→Shared→Prop} (ok:(X.wish E).Ok):X.Ok :=
 ⟨ok.mod,ok.kind,ok.glob,ok.blt,ok.above,ok.inj,ok.has,ok.cab,ok.hd,ok.frames,ok.stk,ok.exf,ok.bs,ok.bsz,ok.noex,ok.exfs,ok.funs,ok.frf⟩
section
variable {X:Cx}{pins:List (Addr×Obj)}{σ:St}{H:Hp}{s:Shared}{E:Value→Shared→Prop}
theorem Inv.wish (I:Inv X pins σ H s) (E:Value→Shared→Prop):Inv (X.wish E) pins σ H s:=⟨I.ok.wish E,I.os,I.bare,I.base,I.loc,I.cell,I.free,I.freeC,I.pin,I.hok,I.len⟩
theorem Inv.unwish (I:Inv (X.wish E) pins σ H s):Inv X pins σ H s:=⟨I.ok.unwish,I.os,I.bare,I.base,I.loc,I.cell,I.free,I.freeC,I.pin,I.hok,I.len⟩
theorem SP.unwish {D:Ends}{f:Flow}{s':Shared} (h:SP (X.wish E) pins D f s'):SP X pins D f s':=by
 cases f with
 | next=>obtain⟨σ',H',I,q⟩:=h;exact⟨σ',H',I.unwish,q⟩
 | brk=>obtain⟨σ',H',I,q⟩:=h;exact⟨σ',H',I.unwish,q⟩
 | cont=>obtain⟨σ',H',I,q⟩:=h;exact⟨σ',H',I.unwish,q⟩
 | ret u=>obtain⟨v,σ',H',I,r,q⟩:=h;exact⟨v,σ',H',I.unwish,r,q⟩
theorem PSs.nox {st:List Stmt}{t:TS} (h:PSs X.nox st t):PSs X st t:=fun pins s σ H D I hw =>
 wpAny_mono (h pins s σ H D (I.wish _) hw) (fun _ _ q=>q.unwish) fun _ _ z=>False.elim z
end
section
variable {X:Cx}{st:Stmt}{rest:List Stmt}{t u:TS}{e:Expr}{te:TE}{pos:Pos}
def Yp4:TS:=fun D σ H=>D.nx σ H
def tSeq (t u:TS):TS:=fun D σ H=>t { D with nx:=u D } σ H
theorem Qx8:PSs X [] Yp4:=fun _ _ σ H _ I h=>wpAny_execs_nil ⟨σ,H,I,h⟩
theorem Qq4 (h1:PS X st t) (h2:PSs X rest u):PSs X (st::rest) (tSeq t u):=by
 intro pins s σ H D I h
 refine wpAny_execs_cons (thn (h1 pins s σ H { D with nx:=u D } I h) fun f s1 q=>?_)
 cases f with
 | next =>
  obtain⟨σ',H',I',q⟩:=q
  exact h2 pins s1 σ' H' D I' q
 | ret v=>exact q
 | brk=>exact q
 | cont=>exact q
theorem Qq8 (h1:PS X st t):PSs X [st] t:=by
 intro pins s σ H D I h
 refine wpAny_execs_cons (thn (h1 pins s σ H D I h) fun f s1 q=>?_)
 cases f with
 | next=>exact wpAny_execs_nil q
 | ret v=>exact q
 | brk=>exact q
 | cont=>exact q
theorem Inv.quiet {pins:List (Addr×Obj)}{σ:St}{H:Hp}{s:Shared} (I:Inv X pins σ H s):interactive X.env=false:=by simp[interactive,I.ok.kind]
def Yp5 (te:TE):TS:=fun D σ H=>te σ H fun _ H1=>D.nx σ H1
theorem Qh8 (he:PE X e te) (hs:swapsWith e none pos.line X.env=pure false:=by rfl):PS X (.Expr e pos) (Yp5 te):=by
 intro pins s σ H D I h
 exact wpAny_Expr_any (thn (he pins s σ H _ I h) fun v s1 ⟨x,H1,I1,r1,q1⟩=>⟨σ,H1,I1,q1⟩) I.quiet hs
def tRet (te:TE):TS:=fun D σ H=>te σ H D.rt
theorem Qz9 (he:PE X e te):PS X (.Return (some e) pos) (tRet te):=by
 intro pins s σ H D I h
 exact wpAny_Return_some (thn (he pins s σ H _ I h) fun v s1 ⟨x,H1,I1,r1,q1⟩=>⟨x,σ,H1,I1,r1,q1⟩)
def tIfS (c:TT) (t u:TS):TS:=fun D σ H=>c σ H fun b H1=>if b=true then t D σ H1 else u D σ H1
theorem Qk1 {c:Expr}{a b:List Stmt}{tc:TT} (hc:PT X c tc) (ha:PSs X a t) (hb:PSs X b u):PS X (.If c a b pos) (tIfS tc t u):=by
 intro pins s σ H D I h
 refine wpAny_If (thn (hc pins s σ H _ I h) fun d s1 ⟨H1,I1,q1⟩=>?_)
 cases d with
 | true=>exact ha pins s1 σ H1 D I1 q1
 | false=>exact hb pins s1 σ H1 D I1 q1
def Yg3:TS:=fun _ _ _=>False
theorem Qy3:PS X st Yg3:=fun _ _ _ _ _ _ h=>h.elim
end
abbrev TG:=V→St→Hp→(St→Hp→Prop)→Prop
abbrev TGs:=List V→St→Hp→(St→Hp→Prop)→Prop
def PG (X:Cx) (target:Expr) (t:TG):Prop :=
 ∀(pins:List (Addr×Obj)) (s:Shared) (σ:St) (H:Hp) (v:V) (u:Value) (Q:St→Hp→Prop),Inv X pins σ H s→RelV v u→t v σ H Q →
  wpAny (model X.prog X.w) X.A (assign target X.env u) (fun _ s'=>∃σ' H',Inv X pins σ' H' s'∧Q σ' H') X.xe s
def PGs (X:Cx) (ts:List Expr) (t:TGs):Prop :=
 ∀(pins:List (Addr×Obj)) (s:Shared) (σ:St) (H:Hp) (vs:List V) (us:List Value) (Q:St→Hp→Prop),Inv X pins σ H s→Vals vs us→t vs σ H Q →
  wpAny (model X.prog X.w) X.A (assignInOrder ((assignEach ts X.env).map (·.2)) us) (fun _ s'=>∃σ' H',Inv X pins σ' H' s'∧Q σ' H') X.xe s
abbrev TSet:=V→V→V→Hp→(Hp→Prop)→Prop
def PSet (X:Cx) (t:TSet):Prop :=
 ∀(pins:List (Addr×Obj)) (s:Shared) (σ:St) (H:Hp) (o i v:V) (ov iv u:Value) (Q:Hp→Prop),Inv X pins σ H s→RelV o ov→RelV i iv→RelV v u→t o i v H Q →
  wpAny (model X.prog X.w) X.A (setItem ov iv u) (fun _ s'=>∃H',Inv X pins σ H' s'∧Q H') X.xe s
section
variable {X:Cx}{pos:Pos}
def Qu5 (i:Nat):TG:=fun v σ H Q=>Q (σ.set i (some v)) H
theorem Qx3 {i:Nat}{x:Str} (hN:X.N.Nodup) (hi:X.N[i]?=some x) (hx:Loc X.env.scope x) (hf:X.fn x=true∨X.env.scope.names.lookup x=some .local:=by first|exact .inl rfl|exact .inr rfl|assumption):PG X (.Name x pos) (Qu5 i):=by
 intro pins s σ H v u Q I r h
 exact wpAny_assign_Name (Xv4 I hN hi hx r (fun s' I'=>⟨_,H,I',h⟩) hf)
def gNil:TGs:=fun vs σ H Q=>vs=[]∧Q σ H
def Yp6 (t:TG) (u:TGs):TGs:=fun vs σ H Q=>∃v r,vs=v::r∧t v σ H fun σ' H'=>u r σ' H' Q
theorem Zy5:PGs X [] gNil:=by
 intro pins s σ H vs us Q I r h
 obtain⟨e,h⟩:=h
 subst e
 cases r
 exact assignInOrder_nil ⟨σ,H,I,h⟩
theorem Qh9 {e:Expr}{es:List Expr}{t:TG}{u:TGs} (h1:PG X e t) (h2:PGs X es u)
  (hs:(assignEach (e::es) X.env).map (·.2)=assign e X.env::(assignEach es X.env).map (·.2):=by rfl):PGs X (e::es) (Yp6 t u):=by
 intro pins s σ H vs us Q I r h
 obtain⟨v,vr,e1,h⟩:=h
 subst e1
 cases r with
 | cons r rr =>
  rw[hs]
  refine assignInOrder_cons (thn (h1 pins s σ H _ _ _ I r h) fun _ s1 ⟨σ1,H1,I1,q1⟩=>?_)
  exact h2 pins s1 σ1 H1 _ _ Q I1 rr q1
def gTup (K:PySem.W.Frag) (n:Nat) (t:TGs):TG:=fun v σ H Q=>∃a xs,v=.ref a∧SqT K H a xs∧xs.length=n∧t xs σ H Q
theorem Yg4 {es:List Expr}{k:Nat}{t:TGs}{n:Nat} (hc:X.calm=true) (h:PGs X es t)
  (hn:(assignEach es X.env).length=n:=by rfl) (hst:(assignEach es X.env).findIdx? (·.1)=none:=by rfl):PG X (.Tuple es k pos) (gTup X.K n t):=by
 intro pins s σ H v u Q I r hw
 obtain⟨a,xs,e1,hq,hl,hw⟩:=hw
 subst e1
 cases r
 obtain⟨its,rv,ht,hz⟩:=I.tuple hq
 refine assign_Tuple_tuple (I.ok.hd hc) ht (by simp[hn,←hl,rv.length]) hst fun h' hx=>?_
 have I1:Inv X pins σ H { s with heap:=h' }:=I.kept (t':=s.toks) fun b o e=>hx b o (Nat.ne_of_lt (Heap.lt_size e)) e
 exact h pins _ σ H xs _ Q I1 (by simpa using rv) hw
def gSub (to ti:TE) (t:TSet):TG:=fun v σ H Q=>to σ H fun o H1=>ti σ H1 fun i H2=>t o i v H2 fun H3=>Q σ H3
theorem Zy6 {o i:Expr}{to ti:TE}{t:TSet} (ho:PE X o to) (hi:PE X i ti) (hs:PSet X t)
  (ha:∀v,assign (.Subscript o i pos) X.env v=(do
   let ov ←holding [v] (eval o X.env)
   let iv ←holding [v,ov] (eval i X.env)
   standAt pos
   holding [v,ov,iv] (setItem ov iv v)
   release [v,ov,iv] []):=by intro _;rfl):PG X (.Subscript o i pos) (gSub to ti t):=by
 intro pins s σ H v u Q I r h
 rw[ha]
 refine wpAny_bind (wpAny_holding (thn (ho pins s σ H _ I h) fun ov s1 ⟨x,H1,I1,r1,q1⟩=>?_))
 refine wpAny_bind (wpAny_holding (thn (hi pins s1 σ H1 _ I1 q1) fun iv s2 ⟨y,H2,I2,r2,q2⟩=>?_))
 refine wpAny_bind (wpAny_standAt (wpAny_bind (wpAny_holding (thn (hs pins s2 σ H2 x y v ov iv u _ I2 r1 r2 r q2) fun _ s3 ⟨H3,I3,q3⟩=>?_))))
 exact wpAny_release ⟨σ,H3,I3,q3⟩
def tAsg (te:TE) (g:TG):TS:=fun D σ H=>te σ H fun x H1=>g x σ H1 D.nx
theorem Zy7 {tg e:Expr}{te:TE}{g:TG} (he:PE X e te) (hg:PG X tg g) (hs:swapsWithSole [tg] e pos.line X.env=pure false:=by rfl) (hw:swappedStores [tg] e X.env=pure none:=by rfl)
  (h1:(assignEach [tg] X.env).map (·.2)=[assign tg X.env]:=by rfl):PS X (.Assign [tg] e pos) (tAsg te g):=by
 intro pins s σ H D I h
 refine wpAny_Assign_stores (thn (he pins s σ H _ I h) fun v s1 ⟨x,H1,I1,r1,q1⟩=>?_) hs hw
 rw[h1]
 exact thn (hg pins s1 σ H1 x v _ I1 r1 q1) fun _ s2 q=>q
theorem Qz6 {i:Nat}{x:Str}{e:Expr}{te:TE}{pos':Pos} (hN:X.N.Nodup) (hi:X.N[i]?=some x) (hx:Loc X.env.scope x) (he:PE X e te) (hs:swapsWith e (some (.Name x pos')) pos.line X.env=pure false:=by rfl) (hf:X.fn x=true∨X.env.scope.names.lookup x=some .local:=by first|exact .inl rfl|exact .inr rfl|assumption) :
  PS X (.Assign [.Name x pos'] e pos) (tAsg te (Qu5 i)):=by
 intro pins s σ H D I h
 refine wpAny_Assign_Name (thn (he pins s σ H _ I h) fun v s1 ⟨y,H1,I1,r1,q1⟩=>?_) hs
 exact Xv4 I1 hN hi hx r1 (fun s2 I2=>⟨_,H1,I2,q1⟩) hf
end
section
variable {X:Cx}{pos:Pos}
def Yg5 (c:TT) (tb:TS):TS:=fun D σ H=>∃W:Nat→St→Hp→Prop,(∃m,W m σ H)∧∀m σ H,W m σ H →
 c σ H fun b H1=>if b=true then ∃N:St→Hp→Prop,(∀σ' H',N σ' H'→∃m',m'<m∧W m' σ' H')∧tb { D with nx:=N,ct:=N,bk:=D.nx } σ H1 else D.nx σ H1
theorem Xa1 {c:Expr}{body:List Stmt}{tc:TT}{tb:TS} (hp:PassesOwn (model X.prog X.w) X.A X.env X.xe) (hc:PT X c tc) (hb:PSs X body tb):PS X (.While c body [] pos) (Yg5 tc tb):=by
 intro pins s σ H D I h
 obtain⟨W,⟨m0,w0⟩,turn⟩:=h
 refine wpAny_While (codeAny_whileLoop (fun n s'=>∃σ' H',Inv X pins σ' H' s'∧W n σ' H') ?_ m0 ⟨σ,H,I,w0⟩)
 rintro n s1 ⟨σ1,H1,I1,w1⟩
 refine wpAny_passesOwn hp (thn (hc pins s1 σ1 H1 _ I1 (turn n σ1 H1 w1)) fun b s2 ⟨H2,I2,q2⟩=>?_)
 cases b with
 | true =>
  obtain⟨N,hN,q2⟩:=q2
  rw[if_pos rfl]
  refine wpAny_passesOwn hp (thn (hb pins s2 σ1 H2 _ I2 q2) fun f s3 q3=>?_)
  cases f with
  | next =>
   obtain⟨σ3,H3,I3,n3⟩:=q3
   obtain⟨m',hm,w3⟩:=hN σ3 H3 n3
   exact⟨m',hm,σ3,H3,I3,w3⟩
  | cont =>
   obtain⟨σ3,H3,I3,n3⟩:=q3
   obtain⟨m',hm,w3⟩:=hN σ3 H3 n3
   exact⟨m',hm,σ3,H3,I3,w3⟩
  | brk=>exact q3
  | ret v=>exact q3
 | false =>
  rw[if_neg Bool.false_ne_true]
  exact wpAny_execs_nil ⟨σ1,H2,I2,q2⟩
end
structure It where
 go:Nat→Hp→Prop
 yld:Nat→Hp→V→Hp→Prop
 stop:Nat→Hp→Prop
def FpOk (X:Cx) (pins:List (Addr×Obj)) (H:Hp) (b:Addr):Prop :=
 H b=none∧b≠X.env.locals∧b∉X.fs∧(b∈X.ex∨X.s₀.heap.objs.size≤b)∧(∀x c,X.env.cells.lookup x=some c→c≠b)∧∀p∈X.pn++pins,p.1≠b
theorem Inv.fpOk {X:Cx}{pins:List (Addr×Obj)}{σ:St}{H H':Hp}{s:Shared}{b:Addr} (I:Inv X pins σ H s) (hb:s.heap.objs.size≤b) (hn:H' b=none):FpOk X pins H' b:=by
 refine⟨hn,Nat.ne_of_gt (Nat.lt_of_lt_of_le I.lt hb),I.nofs hb,.inr (Nat.le_trans I.sz hb),fun x c e z=>?_,fun p hp z=>?_⟩
 ·obtain⟨v,q⟩:=I.cell x c e
  exact absurd (Nat.lt_of_lt_of_le q.lt (by rw[z];exact hb)) (Nat.lt_irrefl _)
 ·exact absurd (Nat.lt_of_lt_of_le (Heap.lt_size (I.pin p hp).1) (by rw[z];exact hb)) (Nat.lt_irrefl _)
structure Turn (P:Program) (w:World) (K:PySem.W.Frag) (tg:Expr) (J:It) (fp:List Addr) (it:Addr) (tn:Nat→Heap→Prop):Prop where
 mem:it∈fp
 obj:∀i h,tn i h→∀b∈fp,∃o,h.get? b=some o∧∀v,o.data≠.cell v
 keep:∀i h h',tn i h→(∀b∈fp,∀o,h.get? b=some o→h'.get? b=some o)→tn i h'
 item:∀(X:Cx),X.prog=P→X.w=w→X.K=K→X.calm=true→∀(i:Nat) (pins:List (Addr×Obj)) (s:Shared) (σ:St) (H:Hp) (E:Value→Shared→Prop),Inv X pins σ H s→(∀b∈fp,FpOk X pins H b)→tn i s.heap→J.go i H →
  wpAny (model P w) X.A (pyNext (.ref it)) (fun r s1=>∃u,r=some u ∧
   wpAny (model P w) X.A (letOwnedTupleGo tg (.ref it) u) (fun _ s2=>∃x H',Inv X pins σ H' s2∧RelV x u∧J.yld i H x H'∧tn (i+1) s2.heap∧∀b∈fp,H' b=none) E s1) E s
 done:∀(X:Cx),X.prog=P→X.w=w→X.K=K→X.calm=true→∀(i:Nat) (pins:List (Addr×Obj)) (s:Shared) (σ:St) (H:Hp) (E:Value→Shared→Prop),Inv X pins σ H s→(∀b∈fp,FpOk X pins H b)→tn i s.heap→J.stop i H →
  wpAny (model P w) X.A (pyNext (.ref it)) (fun r s1=>r=none∧Inv X pins σ H s1) E s
 self:∀(A:Around) (i:Nat) (s:Shared) (Q:Value→Shared→Prop) (E:Value→Shared→Prop),tn i s.heap→Q (.ref it) s→wpAny (model P w) A (pyIter (.ref it)) Q E s
abbrev TI:=St→Hp→(It→Hp→Prop)→Prop
def PIE (X:Cx) (pins:List (Addr×Obj)) (σ:St) (tg:Expr) (R:It→Hp→Prop) (itv:Value) (s2:Shared):Prop :=
 ∃(it:Addr) (fp:List Addr) (tn:Nat→Heap→Prop) (J:It) (H':Hp),itv=.ref it∧Inv X pins σ H' s2∧Turn X.prog X.w X.K tg J fp it tn∧tn 0 s2.heap∧(∀b∈fp,FpOk X pins H' b)∧R J H'
def PI (X:Cx) (tg iter:Expr) (wi:TI):Prop :=
 ∀(pins:List (Addr×Obj)) (s:Shared) (σ:St) (H:Hp) (R:It→Hp→Prop),Inv X pins σ H s→wi σ H R →
  wpAny (model X.prog X.w) X.A (eval iter X.env) (fun v s1=>wpAny (model X.prog X.w) X.A (pyIter v) (PIE X pins σ tg R) X.xe s1) X.xe s
theorem Xk7 {M:Model}{A:Around}{E:Value→Shared→Prop}{s:Shared}{tg:Expr}{it:Addr}{u:Value}{o:Obj}{n:String}{vs:Array Value}{Q:Unit→Shared→Prop} (ho:s.heap.get? it=some o) (hc:o.cls=.type n) (hd:o.data=.fields vs)
  (hn:["enumerate","zip","dict_itemiterator","dict_reverseitemiterator","odict_iterator","itertools.zip_longest","itertools.pairwise"].contains n=false) (hQ:Q () s):wpAny M A (letOwnedTupleGo tg (.ref it) u) Q E s:=by
 unfold letOwnedTupleGo
 cases tg<;>first
  | exact wpAny_pure hQ
  | (cases u<;>first
    | exact wpAny_pure hQ
    | (refine wpAny_bind (wpAny_load ho ?_)
       rw[hc,hd]
       show wpAny M A (if (["enumerate","zip","dict_itemiterator","dict_reverseitemiterator","odict_iterator","itertools.zip_longest","itertools.pairwise"].contains n&&vs[0]?==some (rawInt _))=true then _ else _) Q E s
       rw[if_neg (by intro h;rw[hn,Bool.false_and]at h;cases h)]
       exact wpAny_pure hQ))
def Itl (K:PySem.W.Frag) (a:Addr):It :=
 ⟨fun i H=>∃xs x,SqL K H a xs∧xs[i]?=some x,fun i H x H'=>H'=H∧∀xs,SqL K H a xs→xs[i]?=some x,fun i H=>∃xs,SqL K H a xs∧xs.length≤i⟩
def Itt (K:PySem.W.Frag) (a:Addr):It :=
 ⟨fun i H=>∃xs x,SqT K H a xs∧xs[i]?=some x,fun i H x H'=>H'=H∧∀xs,SqT K H a xs→xs[i]?=some x,fun i H=>∃xs,SqT K H a xs∧xs.length≤i⟩
def Itr (lo:Int) (n:Nat):It:=⟨fun i _=>i<n,fun i H x H'=>H'=H∧x=.int (lo+i),fun i _=>n≤i⟩
theorem Xc4 {P:Program}{w:World}{K:PySem.W.Frag}{tg:Expr} (a it:Addr):Turn P w K tg (Itl K a) [it] it (fun i h=>h.IsListIter it a i) where
 mem:=by simp
 obj:=fun i h st b hb=>by
  have e:b=it:=by simpa using hb
  subst e
  obtain⟨o,e,c,d⟩:=st
  exact⟨o,e,fun v z=>by rw[d]at z;cases z⟩
 keep:=fun i h h' st k=>st.at fun o e=>k it (by simp) o e
 item:=by
  intro X hP hw hK hc i pins s σ H E I hf st hg
  subst hP hw hK
  obtain⟨xs,x,hq,hx⟩:=hg
  obtain⟨its,rv,p,hz⟩:=I.list hq
  obtain⟨u,hu,ru⟩:=rv.get hx
  obtain⟨f0,f1,f2,f3,f4,f5⟩:=hf it (by simp)
  refine wpAny_pyNext_list_item st p.isList (x:=u) (by simpa using hu) fun h' st' sb=>?_
  have I1:Inv X pins σ H { s with heap:=h' }:=I.turned (t':=s.toks) (fun b o hb e=>(sb.2 b hb).trans e) f0 f1 f3 f4 f5
  obtain⟨o,e,c,d⟩:=id st'
  exact⟨u,rfl,Xk7 (s:={ s with heap:=h' }) e c d (by decide) ⟨x,H,I1,ru,⟨rfl,fun ys hy=>by rw[I.list_inj hy hq];exact hx⟩,st',fun b hb=>(hf b hb).1⟩⟩
 done:=by
  intro X hP hw hK hc i pins s σ H E I hf st hg
  subst hP hw hK
  obtain⟨xs,hq,hx⟩:=hg
  obtain⟨its,rv,p,hz⟩:=I.list hq
  obtain⟨f0,f1,f2,f3,f4,f5⟩:=hf it (by simp)
  have hl:=rv.length
  exact wpAny_pyNext_list_end (I.ok.hd hc) st p.isList (by simp;omega) fun h' eb=>⟨rfl,I.turned (t':=s.toks) (fun b o hb e=>eb b o hb e) f0 f1 f3 f4 f5⟩
 self:=fun _ _ _ _ _ st h=>wpAny_pyIter_listiter st h
theorem Xm9 {P:Program}{w:World}{K:PySem.W.Frag}{tg:Expr} (a it:Addr):Turn P w K tg (Itt K a) [it] it (fun i h=>h.IsTupleIter it a i) where
 mem:=by simp
 obj:=fun i h st b hb=>by
  have e:b=it:=by simpa using hb
  subst e
  obtain⟨o,e,c,d⟩:=st
  exact⟨o,e,fun v z=>by rw[d]at z;cases z⟩
 keep:=fun i h h' st k=>st.at fun o e=>k it (by simp) o e
 item:=by
  intro X hP hw hK hc i pins s σ H E I hf st hg
  subst hP hw hK
  obtain⟨xs,x,hq,hx⟩:=hg
  obtain⟨its,rv,p,hz⟩:=I.tuple hq
  obtain⟨u,hu,ru⟩:=rv.get hx
  obtain⟨f0,f1,f2,f3,f4,f5⟩:=hf it (by simp)
  refine wpAny_pyNext_tuple_item st (show s.heap.IsTuple a its.toArray from p) (x:=u) (by simpa using hu) fun h' st' sb=>?_
  have I1:Inv X pins σ H { s with heap:=h' }:=I.turned (t':=s.toks) (fun b o hb e=>(sb.2 b hb).trans e) f0 f1 f3 f4 f5
  obtain⟨o,e,c,d⟩:=id st'
  exact⟨u,rfl,Xk7 (s:={ s with heap:=h' }) e c d (by decide) ⟨x,H,I1,ru,⟨rfl,fun ys hy=>by rw[I.tuple_inj hy hq];exact hx⟩,st',fun b hb=>(hf b hb).1⟩⟩
 done:=by
  intro X hP hw hK hc i pins s σ H E I hf st hg
  subst hP hw hK
  obtain⟨xs,hq,hx⟩:=hg
  obtain⟨its,rv,p,hz⟩:=I.tuple hq
  obtain⟨f0,f1,f2,f3,f4,f5⟩:=hf it (by simp)
  have hl:=rv.length
  exact wpAny_pyNext_tuple_end (I.ok.hd hc) st (show s.heap.IsTuple a its.toArray from p) (by simp;omega) fun h' eb=>⟨rfl,I.turned (t':=s.toks) (fun b o hb e=>eb b o hb e) f0 f1 f3 f4 f5⟩
 self:=fun _ _ _ _ _ st h=>wpAny_pyIter_tupleiter st h
theorem Xu0 {P:Program}{w:World}{K:PySem.W.Frag}{tg:Expr} (it:Addr) (lo:Int) (n:Nat):Turn P w K tg (Itr lo n) [it] it (fun i h=>IsRangeIter h it (lo+(i:Nat)*1) ((n:Int)-(i:Nat)) 1) where
 mem:=by simp
 obj:=fun i h st b hb=>by
  have e:b=it:=by simpa using hb
  subst e
  exact⟨_,st,fun v z=>by
   have z':Data.fields _=Data.cell v:=z
   cases z'⟩
 keep:=fun i h h' st k=>k it (by simp) _ st
 item:=by
  intro X hP hw hK hc i pins s σ H E I hf st hg
  subst hP hw hK
  obtain⟨f0,f1,f2,f3,f4,f5⟩:=hf it (by simp)
  have W:=Walks.range (prog:=X.prog) (w:=X.w) (I.ok.hd hc) it lo 1 n
  refine W.item i s _ _ hg st fun v h' tk hv st' kk=>?_
  obtain⟨t,rfl⟩:=hv
  have I1:Inv X pins σ H { s with heap:=h',toks:=tk }:=I.turned (fun b o hb e=>kk b o (by simpa using hb) e) f0 f1 f3 f4 f5
  refine⟨_,rfl,Xk7 (s:={ s with heap:=h',toks:=tk }) (n := "range_iterator") st' rfl rfl (by decide) ⟨.int (lo+i),H,I1,⟨t,?_⟩,⟨rfl,rfl⟩,st',fun b hb=>(hf b hb).1⟩⟩
  rw[Int.mul_one]
 done:=by
  intro X hP hw hK hc i pins s σ H E I hf st hg
  subst hP hw hK
  obtain⟨f0,f1,f2,f3,f4,f5⟩:=hf it (by simp)
  exact wpAny_pyNext_range_end (I.ok.hd hc) st (by have:n≤i:=hg;omega) fun h' eb=>⟨rfl,I.turned (t':=s.toks) (fun b o hb e=>eb b o hb e) f0 f1 f3 f4 f5⟩
 self:=fun _ _ _ _ _ st h=>wpAny_pyIter_rangeiter st h
end L2
namespace L2
open PySem PySem.Spec PyProof.Rows
section
variable {X:Cx}{tg:Expr}
def Yx1 (K:PySem.W.Frag) (tl:TE):TI:=fun σ H R=>tl σ H fun x H1=>∃a,x=.ref a∧(∃xs,SqL K H1 a xs)∧R (Itl K a) H1
def iTup (K:PySem.W.Frag) (tl:TE):TI:=fun σ H R=>tl σ H fun x H1=>∃a,x=.ref a∧(∃xs,SqT K H1 a xs)∧R (Itt K a) H1
theorem Zd8 {l:Expr}{tl:TE} (hl:PE X l tl):PI X tg l (Yx1 X.K tl):=by
 intro pins s σ H R I h
 refine thn (hl pins s σ H _ I h) fun v s1 ⟨x,H1,I1,r1,q1⟩=>?_
 obtain⟨a,e,⟨xs,hq⟩,q⟩:=q1
 subst e
 cases r1
 obtain⟨its,rv,p,hz⟩:=I1.list hq
 refine wpAny_pyIter_list p.isList ?_
 refine⟨s1.heap.objs.size,[s1.heap.objs.size],_,_,H1,rfl,I1.kept (t':=s1.toks) fun b o e=>Heap.get?_push_of_some _ e,Xc4 a _,⟨_,Heap.get?_push_size _ rfl,rfl,rfl⟩,fun b hb=>?_,q⟩
 have e:b=s1.heap.objs.size:=by simpa using hb
 subst e
 exact I1.fpOk (Nat.le_refl _) (I1.hok.fresh (Nat.le_refl _))
theorem Yg6 {l:Expr}{tl:TE} (hl:PE X l tl):PI X tg l (iTup X.K tl):=by
 intro pins s σ H R I h
 refine thn (hl pins s σ H _ I h) fun v s1 ⟨x,H1,I1,r1,q1⟩=>?_
 obtain⟨a,e,⟨xs,hq⟩,q⟩:=q1
 subst e
 cases r1
 obtain⟨its,rv,p,hz⟩:=I1.tuple hq
 refine wpAny_pyIter_tuple (show s1.heap.IsTuple a its.toArray from p) ?_
 refine⟨s1.heap.objs.size,[s1.heap.objs.size],_,_,H1,rfl,I1.kept (t':=s1.toks) fun b o e=>Heap.get?_push_of_some _ e,Xm9 a _,⟨_,Heap.get?_push_size _ rfl,rfl,rfl⟩,fun b hb=>?_,q⟩
 have e:b=s1.heap.objs.size:=by simpa using hb
 subst e
 exact I1.fpOk (Nat.le_refl _) (I1.hok.fresh (Nat.le_refl _))
theorem Xa2 {pins:List (Addr×Obj)}{σ:St}{H:Hp}{s:Shared}{R:It→Hp→Prop}{E:Value→Shared→Prop}{lo hi:Int}{t u v:Tok}{tk:Nat} (I:Inv X pins σ H s) (h1 : -(2^62)≤lo) (h2:lo<2^62) (h3 : -(2^62)≤hi) (h4:hi<2^62)
  (q:R (Itr lo (hi-lo).toNat) H):wpAny (model X.prog X.w) X.A (pyIter (.ref s.heap.objs.size)) (PIE X pins σ tg R) E { s with heap:=s.heap.push { cls:=.type "range",data:=.fields #[.int lo t,.int hi u,.int 1 v] },toks:=tk }:=by
 refine wpAny_pyIter_range (IsRange.new ..) (small_one h1 h2 h3 h4) ?_
 have I1:Inv X pins σ H { s with heap:=s.heap.push { cls:=.type "range",data:=.fields #[.int lo t,.int hi u,.int 1 v] },toks:=tk }:=I.kept fun b o e=>Heap.get?_push_of_some _ e
 refine⟨(s.heap.push { cls:=.type "range",data:=.fields #[.int lo t,.int hi u,.int 1 v] }).objs.size,[(s.heap.push { cls:=.type "range",data:=.fields #[.int lo t,.int hi u,.int 1 v] }).objs.size],_,_,H,rfl,
  I1.kept (t':=tk) fun b o e=>Heap.get?_push_of_some _ e,Xu0 _ lo (hi-lo).toNat,?_,fun b hb=>?_,q⟩
 ·have e1:lo+((0:Nat):Int)*1=lo:=by simp
  have e2:(((hi-lo).toNat:Nat):Int)-((0:Nat):Int)=Builtin.Range.rangeSize lo hi 1:=by rw[rangeSize_one];split<;>omega
  show IsRangeIter _ _ (lo+((0:Nat):Int)*1) ((((hi-lo).toNat:Nat):Int)-((0:Nat):Int)) 1
  rw[e1,e2]
  exact Heap.get?_push_size _ rfl
 ·have e:b=(s.heap.push { cls:=.type "range",data:=.fields #[.int lo t,.int hi u,.int 1 v] }).objs.size:=by simpa using hb
  subst e
  exact I1.fpOk (Nat.le_refl _) (I1.hok.fresh (Nat.le_refl _))
def Yp7 (ta:TA):TI:=fun σ H R=>ta σ H fun vs H1=>∃j:Int,vs=[.int j] ∧ -(2^62)≤j∧j<2^62∧R (Itr 0 j.toNat) H1
theorem Qy8 {a:Expr}{ta:TA}{p pos:Pos} (hg:Gl X "range") (hm:X.mg "range" = none) (ha:PA X [a] ta) (hs:starEach [a] X.env=[(false,eval a X.env)]:=by rfl):PI X tg (.Call (.Name "range" p) [a] [] pos) (Yp7 ta):=by
 intro pins s σ H R I h
 refine Call_ (Qt4 I hg hm boot_range (PyProof.Rows.callWith_type1 (thn (ha pos pins s σ H _ I h) fun us s1 ⟨vs,H1,I1,r1,q1⟩=>?_) hs rfl))
 obtain⟨j,e,q1,q2,q⟩:=q1
 subst e
 cases r1 with
 | cons r rr =>
  cases rr
  obtain⟨t,rfl⟩:=r
  exact call_range_1 (Xa2 I1 (by omega) (by omega) q1 q2 (by simpa using q))
def tFor (wi:TI) (g:TG) (tb:TS):TS:=fun D σ H=>wi σ H fun J H1=>∃W:Nat→Nat→St→Hp→Prop,(∃m,W 0 m σ H1)∧∀i m σ H,W i m σ H →
 (J.stop i H∧D.nx σ H)∨(J.go i H∧∃N:St→Hp→Prop,(∀σ' H',N σ' H'→∃m',m'<m∧W (i+1) m' σ' H')∧∀x H',J.yld i H x H'→g x σ H' fun σ2 H2=>tb { D with nx:=N,ct:=N,bk:=D.nx } σ2 H2)
def Zy8 (fp:List Addr) (h:Heap):List (Addr×Obj):=fp.filterMap fun b=>(h.get? b).map fun o=>(b,o)
theorem Zz6 {fp:List Addr}{h:Heap}{b:Addr}{o:Obj} (hb:b∈fp) (e:h.get? b=some o):(b,o)∈Zy8 fp h:=List.mem_filterMap.mpr ⟨b,hb,by rw[e];rfl⟩
theorem Xc5 {fp:List Addr}{h:Heap}{p:Addr×Obj} (hp:p∈Zy8 fp h):p.1∈fp∧h.get? p.1=some p.2:=by
 obtain⟨b,hb,e⟩:=List.mem_filterMap.mp hp
 cases q:h.get? b with
 | none=>rw[q]at e;cases e
 | some o =>
  rw[q]at e
  have e':(b,o)=p:=Option.some.inj e
  subst e'
  exact⟨hb,q⟩
theorem Inv.pinned {pins:List (Addr×Obj)}{σ:St}{H:Hp}{s:Shared}{fp:List Addr} (I:Inv X pins σ H s) (hf:∀b∈fp,FpOk X pins H b) (ho:∀b∈fp,∃o,s.heap.get? b=some o∧∀v,o.data≠.cell v):Inv X (pins++Zy8 fp s.heap) σ H s :=
 I.pins_of fun p hp=>(List.mem_append.mp hp).elim (fun z=>I.pin p (List.mem_append_right _ z)) fun z=>by
  obtain⟨hb,e⟩:=Xc5 z
  obtain⟨f0,f1,f2,_⟩:=hf p.1 hb
  obtain⟨o,e',d⟩:=ho p.1 hb
  rw[e]at e';cases e'
  exact⟨e,f0,f1,f2,d⟩
theorem Inv.unpinned {pins pl:List (Addr×Obj)}{σ:St}{H:Hp}{s:Shared} (I:Inv X (pins++pl) σ H s):Inv X pins σ H s:=I.pins_of fun p hp=>I.pin p (List.mem_append_right _ (List.mem_append_left _ hp))
theorem Qf3 {iter:Expr}{body:List Stmt}{wi:TI}{g:TG}{tb:TS}{pos:Pos} (hp:PassesOwn (model X.prog X.w) X.A X.env X.xe) (hc:X.calm=true) (hi:PI X tg iter wi) (hg:PG X tg g) (hb:PSs X body tb)
  (hs:∀x,foldedSetIterable iter X.env x=pure x:=by intro _;rfl):PS X (.For tg iter body [] pos) (tFor wi g tb):=by
 intro pins s σ H D I h
 refine wpAny_For (thn (hi pins s σ H _ I h) fun v s1 h1=>thn h1 fun itv s2 h2=>?_) hs
 obtain⟨it,fp,tn,J,H2,e,I2,T,st2,f2,W,⟨m0,w0⟩,turn⟩:=h2
 subst e
 have stat:∀{H':Hp},(∀b∈fp,H' b=none)→∀b∈fp,FpOk X pins H' b:=fun hn b hb=>⟨hn b hb,(f2 b hb).2⟩
 refine codeAny_forLoop_any (fun n s'=>∃i σ' H',Inv X pins σ' H' s'∧tn i s'.heap∧(∀b∈fp,H' b=none)∧W i n σ' H') ?_ m0 ⟨0,σ,H2,I2,st2,fun b hb=>(f2 b hb).1,w0⟩
 rintro n s3 ⟨i,σ3,H3,I3,st3,fr3,w3⟩
 rcases turn i n σ3 H3 w3 with ⟨stop,qn⟩|⟨go,N,hN,step⟩
 ·refine wpAny_passesOwn hp (thn (T.done X rfl rfl rfl hc i pins s3 σ3 H3 X.xe I3 (stat fr3) st3 stop) fun r s4 ⟨hr,I4⟩=>?_)
  subst hr
  exact wpAny_execs_nil ⟨σ3,H3,I4,qn⟩
 ·refine wpAny_passesOwn hp (thn (T.item X rfl rfl rfl hc i pins s3 σ3 H3 X.xe I3 (stat fr3) st3 go) fun r s4 ⟨u,hr,h4⟩=>?_)
  subst hr
  refine wpAny_passesOwn hp (thn h4 fun _ s5 ⟨x,H5,I5,r5,y5,st5,fr5⟩=>?_)
  have I5':=I5.pinned (stat fr5) (T.obj _ _ st5)
  refine wpAny_passesOwn hp (thn (hg _ s5 σ3 H5 x u _ I5' r5 (step x H5 y5)) fun _ s6 ⟨σ6,H6,I6,q6⟩=>?_)
  refine wpAny_passesOwn hp (thn (hb _ s6 σ6 H6 _ I6 q6) fun f s7 q7=>?_)
  have again:∀{σ7:St}{H7:Hp},Inv X (pins++Zy8 fp s5.heap) σ7 H7 s7→N σ7 H7→∃m,m<n∧∃i σ' H',Inv X pins σ' H' s7∧tn i s7.heap∧(∀b∈fp,H' b=none)∧W i m σ' H':=fun {σ7 H7} I7 n7=>by
   obtain⟨m',hm,w7⟩:=hN σ7 H7 n7
   refine⟨m',hm,i+1,σ7,H7,I7.unpinned,T.keep _ _ _ st5 fun b hb o e=>(I7.pin (b,o) (List.mem_append_right _ (List.mem_append_right _ (Zz6 hb e)))).1,fun b hb=>?_,w7⟩
   obtain⟨o,e,d⟩:=T.obj _ _ st5 b hb
   exact(I7.pin (b,o) (List.mem_append_right _ (List.mem_append_right _ (Zz6 hb e)))).2.1
  cases f with
  | next=>obtain⟨σ7,H7,I7,n7⟩:=q7;exact again I7 n7
  | cont=>obtain⟨σ7,H7,I7,n7⟩:=q7;exact again I7 n7
  | brk=>obtain⟨σ7,H7,I7,q7⟩:=q7;exact⟨σ7,H7,I7.unpinned,q7⟩
  | ret v=>obtain⟨x7,σ7,H7,I7,r7,q7⟩:=q7;exact⟨x7,σ7,H7,I7.unpinned,r7,q7⟩
end
theorem Zc9 {K:PySem.W.Frag}{a:Addr}{xs:List V}{g:TG}{tb:TS}{D:Ends}{σ:St}{H:Hp} (Pv:Nat→St→Hp→Prop) (h0:Pv 0 σ H) (hl:∀i σ H,i≤xs.length→Pv i σ H→SqL K H a xs)
  (hs:∀i x σ H,xs[i]?=some x→Pv i σ H→g x σ H fun σ2 H2=>tb { D with nx:=Pv (i+1),ct:=Pv (i+1),bk:=D.nx } σ2 H2) (hd:∀σ H,Pv xs.length σ H→D.nx σ H) :
  ∃W:Nat→Nat→St→Hp→Prop,(∃m,W 0 m σ H)∧∀i m σ H,W i m σ H →
   ((Itl K a).stop i H∧D.nx σ H)∨((Itl K a).go i H∧∃N:St→Hp→Prop,(∀σ' H',N σ' H'→∃m',m'<m∧W (i+1) m' σ' H')∧∀x H',(Itl K a).yld i H x H'→g x σ H' fun σ2 H2=>tb { D with nx:=N,ct:=N,bk:=D.nx } σ2 H2):=by
 refine⟨fun i m σ H=>m=xs.length-i∧i≤xs.length∧Pv i σ H,⟨xs.length,by simp,Nat.zero_le _,h0⟩,?_⟩
 rintro i m σ H ⟨rfl,hi,p⟩
 have q:=hl i σ H hi p
 by_cases hlt:i<xs.length
 ·refine .inr ⟨⟨xs,xs[i],q,by simp[hlt]⟩,Pv (i+1),fun σ' H' p'=>⟨xs.length-(i+1),by omega,rfl,hlt,p'⟩,fun x H' y=>?_⟩
  obtain⟨e,y⟩:=y
  subst e
  exact hs i x σ _ (y xs q) p
 ·have e:i=xs.length:=by omega
  subst e
  exact .inl ⟨⟨xs,q,Nat.le_refl _⟩,hd σ H p⟩
theorem Yj3 {K:PySem.W.Frag}{a:Addr}{xs:List V}{g:TG}{tb:TS}{D:Ends}{σ:St}{H:Hp} (Pv:Nat→St→Hp→Prop) (h0:Pv 0 σ H) (hl:∀i σ H,i≤xs.length→Pv i σ H→SqT K H a xs)
  (hs:∀i x σ H,xs[i]?=some x→Pv i σ H→g x σ H fun σ2 H2=>tb { D with nx:=Pv (i+1),ct:=Pv (i+1),bk:=D.nx } σ2 H2) (hd:∀σ H,Pv xs.length σ H→D.nx σ H) :
  ∃W:Nat→Nat→St→Hp→Prop,(∃m,W 0 m σ H)∧∀i m σ H,W i m σ H →
   ((Itt K a).stop i H∧D.nx σ H)∨((Itt K a).go i H∧∃N:St→Hp→Prop,(∀σ' H',N σ' H'→∃m',m'<m∧W (i+1) m' σ' H')∧∀x H',(Itt K a).yld i H x H'→g x σ H' fun σ2 H2=>tb { D with nx:=N,ct:=N,bk:=D.nx } σ2 H2):=by
 refine⟨fun i m σ H=>m=xs.length-i∧i≤xs.length∧Pv i σ H,⟨xs.length,by simp,Nat.zero_le _,h0⟩,?_⟩
 rintro i m σ H ⟨rfl,hi,p⟩
 have q:=hl i σ H hi p
 by_cases hlt:i<xs.length
 ·refine .inr ⟨⟨xs,xs[i],q,by simp[hlt]⟩,Pv (i+1),fun σ' H' p'=>⟨xs.length-(i+1),by omega,rfl,hlt,p'⟩,fun x H' y=>?_⟩
  obtain⟨e,y⟩:=y
  subst e
  exact hs i x σ _ (y xs q) p
 ·have e:i=xs.length:=by omega
  subst e
  exact .inl ⟨⟨xs,q,Nat.le_refl _⟩,hd σ H p⟩
theorem Zw1 {lo:Int}{n:Nat}{g:TG}{tb:TS}{D:Ends}{σ:St}{H:Hp} (Pv:Nat→St→Hp→Prop) (h0:Pv 0 σ H)
  (hs:∀i σ H,i<n→Pv i σ H→g (.int (lo+i)) σ H fun σ2 H2=>tb { D with nx:=Pv (i+1),ct:=Pv (i+1),bk:=D.nx } σ2 H2) (hd:∀σ H,Pv n σ H→D.nx σ H) :
  ∃W:Nat→Nat→St→Hp→Prop,(∃m,W 0 m σ H)∧∀i m σ H,W i m σ H →
   ((Itr lo n).stop i H∧D.nx σ H)∨((Itr lo n).go i H∧∃N:St→Hp→Prop,(∀σ' H',N σ' H'→∃m',m'<m∧W (i+1) m' σ' H')∧∀x H',(Itr lo n).yld i H x H'→g x σ H' fun σ2 H2=>tb { D with nx:=N,ct:=N,bk:=D.nx } σ2 H2):=by
 refine⟨fun i m σ H=>m=n-i∧i≤n∧Pv i σ H,⟨n,by simp,Nat.zero_le _,h0⟩,?_⟩
 rintro i m σ H ⟨rfl,hi,p⟩
 by_cases hlt:i<n
 ·refine .inr ⟨hlt,Pv (i+1),fun σ' H' p'=>⟨n-(i+1),by omega,rfl,hlt,p'⟩,fun x H' y=>?_⟩
  obtain⟨e,y⟩:=y
  subst e y
  exact hs i σ _ hlt p
 ·have e:i=n:=by omega
  subst e
  exact .inl ⟨Nat.le_refl _,hd σ H p⟩
end L2
namespace L2
open PySem PySem.Spec PyProof.Rows
abbrev R2:=V→V→Hp→VK→Prop
def OpR (X:Cx) (f:Value→Value→Sem Value) (r:R2):Prop :=
 ∀(pins:List (Addr×Obj)) (s:Shared) (σ:St) (H:Hp) (x y:V) (v u:Value) (Q:VK),Inv X pins σ H s→RelV x v→RelV y u→r x y H Q →
  wpAny (model X.prog X.w) X.A (f v u) (EP X pins σ Q) X.xe s
def Qs0 (X:Cx) (f:Value) (r:List V→Hp→VK→Prop):Prop :=
 ∀(pins:List (Addr×Obj)) (s:Shared) (σ:St) (H:Hp) (xs:List V) (us:List Value) (Q:VK),Inv X pins σ H s→Vals xs us→r xs H Q →
  wpAny (model X.prog X.w) X.A (call f us) (EP X pins σ Q) X.xe s
def tOp (r:R2) (ta tb:TE):TE:=fun σ H Q=>ta σ H fun x H1=>tb σ H1 fun y H2=>r x y H2 Q
def rI (C:Int→Int→Prop) (g:Int→Int→V):R2:=fun x y H Q=>∃i j,x=.int i∧y=.int j∧C i j∧Q (g i j) H
def rI0 (g:Int→Int→V):R2:=fun x y H Q=>∃i j,x=.int i∧y=.int j∧Q (g i j) H
section
variable {X:Cx}{a b c:Expr}{ta tb tc:TE}{pos:Pos}
theorem binT (ha:PE X a ta) (hb:PE X b tb) {pins:List (Addr×Obj)}{s:Shared}{σ:St}{H:Hp}{R:V→V→Hp→Prop} (I:Inv X pins σ H s)
  (h:ta σ H fun x H1=>tb σ H1 fun y H2=>R x y H2) {Q:Value→Shared→Prop}{f:Value→Value→Sem Value}
  (hf:∀v u s2 x y H2,Inv X pins σ H2 s2→RelV x v→RelV y u→R x y H2→wpAny (model X.prog X.w) X.A (f v u) Q X.xe s2) :
  wpAny (model X.prog X.w) X.A (eval a X.env) (fun v s₁=>wpAny (model X.prog X.w) X.A (eval b X.env) (fun u s₂=>wpAny (model X.prog X.w) X.A (f v u) Q X.xe s₂) X.xe s₁) X.xe s:=by
 refine thn (ha pins s σ H _ I h) fun v s1 ⟨x,H1,I1,r1,q1⟩=>?_
 refine thn (hb pins s1 σ H1 _ I1 q1) fun u s2 ⟨y,H2,I2,r2,q2⟩=>?_
 exact hf v u s2 x y H2 I2 r1 r2 q2
theorem Qz7 {op:Operator}{r:R2} (ho:OpR X (binaryOp op) r) (ha:PE X a ta) (hb:PE X b tb):PE X (.BinOp a op b pos) (tOp r ta tb):=by
 intro pins s σ H Q I h
 exact wpAny_BinOp (binT ha hb I h fun v u s2 x y H2 I2 rx ry q=>ho pins s2 σ H2 x y v u Q I2 rx ry q)
theorem opI {f:Value→Value→Sem Value}{C:Int→Int→Prop}{g:Int→Int→Int}
  (rule:∀(i j:Int) (t u:Tok) (s:Shared) (Q:Value→Shared→Prop) (E:Value→Shared→Prop),C i j→Q (.int (g i j) s.toks) { s with toks:=s.toks+1 }→wpAny (model X.prog X.w) X.A (f (.int i t) (.int j u)) Q E s) :
  OpR X f (rI C fun i j=>.int (g i j)):=by
 intro pins s σ H x y v u Q I rx ry h
 obtain⟨i,j,rfl,rfl,hc,q⟩:=h
 obtain⟨t,rfl⟩:=rx
 obtain⟨t',rfl⟩:=ry
 exact rule i j t t' s _ _ hc ⟨.int (g i j),H,I.tok _,⟨_,rfl⟩,q⟩
theorem opI0 {f:Value→Value→Sem Value}{g:Int→Int→Int}
  (rule:∀(i j:Int) (t u:Tok) (s:Shared) (Q:Value→Shared→Prop) (E:Value→Shared→Prop),Q (.int (g i j) s.toks) { s with toks:=s.toks+1 }→wpAny (model X.prog X.w) X.A (f (.int i t) (.int j u)) Q E s) :
  OpR X f (rI0 fun i j=>.int (g i j)):=by
 intro pins s σ H x y v u Q I rx ry h
 obtain⟨i,j,rfl,rfl,q⟩:=h
 obtain⟨t,rfl⟩:=rx
 obtain⟨t',rfl⟩:=ry
 exact rule i j t t' s _ _ ⟨.int (g i j),H,I.tok _,⟨_,rfl⟩,q⟩
theorem opB0 {f:Value→Value→Sem Value}{g:Int→Int→Bool}
  (rule:∀(i j:Int) (t u:Tok) (s:Shared) (Q:Value→Shared→Prop) (E:Value→Shared→Prop),Q (.bool (g i j)) s→wpAny (model X.prog X.w) X.A (f (.int i t) (.int j u)) Q E s) :
  OpR X f (rI0 fun i j=>.bl (g i j)):=by
 intro pins s σ H x y v u Q I rx ry h
 obtain⟨i,j,rfl,rfl,q⟩:=h
 obtain⟨t,rfl⟩:=rx
 obtain⟨t',rfl⟩:=ry
 exact rule i j t t' s _ _ ⟨.bl (g i j),H,I,rfl,q⟩
def CDiv (i j:Int):Prop:=0<j∧j<1073741824
def CPow (i j:Int):Prop:=0≤j∧j≤1000000∧i.natAbs<2^64
def CMul (i j:Int):Prop:=(-(2^64)<i∧i<2^64)∨(-(2^64)<j∧j<2^64)
theorem CMul.ok {i j:Int} (h:CMul i j):IntMulOk i j:=by
 rcases h with ⟨h1,h2⟩|⟨h1,h2⟩
 ·exact .of_left (intBits_le_64 h1 h2)
 ·exact .of_right (intBits_le_64 h1 h2)
theorem two_pow_nn (k:Nat):(0:Int)≤2^k:=by
 rw[two_pow_cast]
 exact Int.natCast_nonneg _
theorem Qy1:OpR X (binaryOp .Add) (rI0 fun i j=>.int (i+j)):=opI0 fun _ _ _ _ _ _ _ q=>add_int q
theorem Zk2:OpR X (binaryOp .Sub) (rI0 fun i j=>.int (i-j)):=opI0 fun _ _ _ _ _ _ _ q=>sub_int q
theorem Zp9:OpR X (binaryOp .Mult) (rI CMul fun i j=>.int (i*j)):=opI fun _ _ _ _ _ _ _ hc q=>mul_int q hc.ok
theorem Ze0:OpR X (binaryOp .FloorDiv) (rI CDiv fun i j=>.int (i/j)):=opI fun i j _ _ _ _ _ hc q=>by
 have h1:(0:Int)<j:=hc.1
 have h2:j<1073741824:=hc.2
 exact floordiv_int (by omega) (by rw[Int.fdiv_eq_ediv_of_nonneg i (by omega)];exact q) (.inl (PyProof.noPylong_small (by omega)))
theorem Ql8:OpR X (binaryOp .Mod) (rI (fun _ j=>0<j) fun i j=>.int (i%j)):=opI fun i j _ _ _ _ _ hc q=>by
 have h1:(0:Int)<j:=hc
 exact mod_int' (by omega) (by rw[Int.fmod_eq_emod_of_nonneg i (by omega)];exact q)
theorem Zf0:OpR X (binaryOp .LShift) (rI CPow fun i j=>.int (i*2^j.toNat)):=opI fun _ _ _ _ _ _ _ hc q=>lshift_int_small hc.1 hc.2.1 hc.2.2 q
theorem Zn9:OpR X (binaryOp .RShift) (rI (fun _ j=>0≤j) fun i j=>.int (i/2^j.toNat)):=opI fun i j _ _ _ _ _ hc q =>
 rshift_int hc (by rw[Int.fdiv_eq_ediv_of_nonneg i (two_pow_nn _)];exact q)
theorem Qe8:OpR X (binaryOp .BitAnd) (rI0 fun i j=>.int (Builtin.bitAnd i j)):=opI0 fun _ _ _ _ _ _ _ q=>and_int q
theorem Zh5:OpR X (binaryOp .BitOr) (rI0 fun i j=>.int (Builtin.bitOr i j)):=opI0 fun _ _ _ _ _ _ _ q=>or_int q
end
def scal:V→V→Bool
 | .non,.non=>true|.non,.int _=>true|.int _,.non=>true|.non,.bl _=>true|.bl _,.non=>true|.non,.str _=>true|.str _,.non=>true
 | .int _,.int _=>true|.bl _,.bl _=>true|.str _,.str _=>true|.byt _,.byt _=>true
 | .int _,.str _=>true|.str _,.int _=>true|.bl _,.str _=>true|.str _,.bl _=>true
 | _,_=>false
def rEq:R2:=fun x y H Q=>scal x y=true∧Q (.bl (decide (x=y))) H
def rNe:R2:=fun x y H Q=>scal x y=true∧Q (.bl (!decide (x=y))) H
theorem Xp2 {i j:Int}:decide (V.int i=V.int j)=(i==j):=by
 rw[Bool.eq_iff_iff]
 simp
theorem Xc6 {i j:Bool}:decide (V.bl i=V.bl j)=(i==j):=by
 rw[Bool.eq_iff_iff]
 simp
theorem Xp3 {i j:Str}:decide (V.str i=V.str j)=(i==j):=by
 rw[Bool.eq_iff_iff]
 simp
theorem Xp4 {i j:Array UInt8}:decide (V.byt i=V.byt j)=(i.toList==j.toList):=by
 rw[Bool.eq_iff_iff]
 cases i
 cases j
 simp
section
variable {X:Cx}{a b c:Expr}{ta tb tc:TE}{pos:Pos}
theorem Qk7 {pins:List (Addr×Obj)}{σ:St}{H:Hp}{s:Shared}{Q:VK}{k k':Bool} (I:Inv X pins σ H s) (q:Q (.bl k) H) (e:k=k'):EP X pins σ Q (.bool k') s:=by
 subst e
 exact⟨.bl k,H,I,rfl,q⟩
theorem Qb5:OpR X (compareOp .Eq) rEq:=by
 intro pins s σ H x y v u Q I rx ry h
 obtain⟨hs,q⟩:=h
 cases x with
 | non =>
  cases rx
  cases y with
  | non=>cases ry;exact PySem.EqNone.eq_none_none (Qk7 I q (by simp))
  | bl j=>cases ry;exact PySem.EqNone.eq_none_bool (Qk7 I q (by simp))
  | int j=>obtain⟨t',rfl⟩:=ry;exact PySem.EqNone.eq_none_int (Qk7 I q (by simp))
  | str j=>obtain⟨t',rfl⟩:=ry;exact PySem.EqNone.eq_none_str (Qk7 I q (by simp))
  | _=>exact absurd (show false=true from hs) Bool.false_ne_true
 | bl i =>
  cases rx
  cases y with
  | non=>cases ry;exact PySem.EqNone.eq_bool_none (Qk7 I q (by simp))
  | bl j=>cases ry;exact eq_bool (Qk7 I q Xc6)
  | str j=>obtain⟨t',rfl⟩:=ry;exact PySem.EqMixed.eq_bool_str (Qk7 I q (by simp))
  | _=>exact absurd (show false=true from hs) Bool.false_ne_true
 | int i =>
  obtain⟨t,rfl⟩:=rx
  cases y with
  | non=>cases ry;exact PySem.EqNone.eq_int_none (Qk7 I q (by simp))
  | int j=>obtain⟨t',rfl⟩:=ry;exact eq_int (Qk7 I q Xp2)
  | str j=>obtain⟨t',rfl⟩:=ry;exact PySem.EqMixed.eq_int_str (Qk7 I q (by simp))
  | _=>exact absurd (show false=true from hs) Bool.false_ne_true
 | str i =>
  obtain⟨t,rfl⟩:=rx
  cases y with
  | non=>cases ry;exact PySem.EqNone.eq_str_none (Qk7 I q (by simp))
  | bl j=>cases ry;exact PySem.EqMixed.eq_str_bool (Qk7 I q (by simp))
  | int j=>obtain⟨t',rfl⟩:=ry;exact PySem.EqMixed.eq_str_int (Qk7 I q (by simp))
  | str j=>obtain⟨t',rfl⟩:=ry;exact eq_str (Qk7 I q Xp3)
  | _=>exact absurd (show false=true from hs) Bool.false_ne_true
 | byt i =>
  obtain⟨t,rfl⟩:=rx
  cases y with
  | byt j=>obtain⟨t',rfl⟩:=ry;exact PySem.W.eq_bytes (Qk7 I q Xp4)
  | _=>exact absurd (show false=true from hs) Bool.false_ne_true
 | _=>cases y<;>exact absurd (show false=true from hs) Bool.false_ne_true
theorem Qt6:OpR X (compareOp .NotEq) rNe:=by
 intro pins s σ H x y v u Q I rx ry h
 obtain⟨hs,q⟩:=h
 cases x with
 | non =>
  cases rx
  cases y with
  | non=>cases ry;exact PySem.EqNone.ne_none_none (Qk7 I q (by simp))
  | bl j=>cases ry;exact PySem.EqNone.ne_none_bool (Qk7 I q (by simp))
  | int j=>obtain⟨t',rfl⟩:=ry;exact PySem.EqNone.ne_none_int (Qk7 I q (by simp))
  | str j=>obtain⟨t',rfl⟩:=ry;exact PySem.EqNone.ne_none_str (Qk7 I q (by simp))
  | _=>exact absurd (show false=true from hs) Bool.false_ne_true
 | bl i =>
  cases rx
  cases y with
  | non=>cases ry;exact PySem.EqNone.ne_bool_none (Qk7 I q (by simp))
  | bl j=>cases ry;exact ne_bool (Qk7 I q (congrArg not Xc6))
  | str j=>obtain⟨t',rfl⟩:=ry;exact PySem.EqMixed.ne_bool_str (Qk7 I q (by simp))
  | _=>exact absurd (show false=true from hs) Bool.false_ne_true
 | int i =>
  obtain⟨t,rfl⟩:=rx
  cases y with
  | non=>cases ry;exact PySem.EqNone.ne_int_none (Qk7 I q (by simp))
  | int j=>obtain⟨t',rfl⟩:=ry;exact ne_int (Qk7 I q (congrArg not Xp2))
  | str j=>obtain⟨t',rfl⟩:=ry;exact PySem.EqMixed.ne_int_str (Qk7 I q (by simp))
  | _=>exact absurd (show false=true from hs) Bool.false_ne_true
 | str i =>
  obtain⟨t,rfl⟩:=rx
  cases y with
  | non=>cases ry;exact PySem.EqNone.ne_str_none (Qk7 I q (by simp))
  | bl j=>cases ry;exact PySem.EqMixed.ne_str_bool (Qk7 I q (by simp))
  | int j=>obtain⟨t',rfl⟩:=ry;exact PySem.EqMixed.ne_str_int (Qk7 I q (by simp))
  | str j=>obtain⟨t',rfl⟩:=ry;exact ne_str (Qk7 I q (congrArg not Xp3))
  | _=>exact absurd (show false=true from hs) Bool.false_ne_true
 | byt i =>
  obtain⟨t,rfl⟩:=rx
  cases y with
  | byt j=>obtain⟨t',rfl⟩:=ry;exact PySem.W.ne_bytes (Qk7 I q (congrArg not Xp4))
  | _=>exact absurd (show false=true from hs) Bool.false_ne_true
 | _=>cases y<;>exact absurd (show false=true from hs) Bool.false_ne_true
theorem Zw2:OpR X (compareOp .Lt) (rI0 fun i j=>.bl (decide (i<j))):=opB0 fun _ _ _ _ _ _ _ q=>lt_int q
theorem Xu1:OpR X (compareOp .LtE) (rI0 fun i j=>.bl (decide (i≤j))):=opB0 fun _ _ _ _ _ _ _ q=>le_int q
theorem Zi0:OpR X (compareOp .Gt) (rI0 fun i j=>.bl (decide (j<i))):=opB0 fun _ _ _ _ _ _ _ q=>gt_int q
theorem Zf1:OpR X (compareOp .Is) (fun x y H Q=>y=.non∧Q (.bl (decide (x=.non))) H):=by
 intro pins s σ H x y v u Q I rx ry h
 obtain⟨rfl,q⟩:=h
 cases ry
 refine is_none_gen (Qk7 I q ?_)
 cases x<;>first
  | (cases rx;rfl)
  | (obtain⟨t,rfl⟩:=rx;rfl)
theorem Xp5:OpR X (compareOp .IsNot) (fun x y H Q=>y=.non∧Q (.bl (!decide (x=.non))) H):=by
 intro pins s σ H x y v u Q I rx ry h
 obtain⟨rfl,q⟩:=h
 cases ry
 refine isnot_none_gen (Qk7 I q ?_)
 cases x<;>first
  | (cases rx;rfl)
  | (obtain⟨t,rfl⟩:=rx;rfl)
theorem Qx2 (b:Expr) {op:CmpOp} (h:op≠.In:=by decide) (h2:op≠.NotIn:=by decide):behindInMarks op b=false:=by
 have e1:(op==CmpOp.In)=false:=by cases op<;>first|rfl|exact absurd rfl h
 have e2:(op==CmpOp.NotIn)=false:=by cases op<;>first|rfl|exact absurd rfl h2
 cases b<;>simp[behindInMarks,e1,e2]
theorem Zj1 {op:CmpOp}{r:R2} (ho:OpR X (compareOp op) r) (ha:PE X a ta) (hb:PE X b tb) (hm:behindInMarks op b=false):PE X (.Compare a [op] [b] pos) (tOp r ta tb):=by
 intro pins s σ H Q I h
 exact wpAny_Compare1 (binT ha hb I h fun v u s2 x y H2 I2 rx ry q=>ho pins s2 σ H2 x y v u Q I2 rx ry q) hm
def Yx2 (t:TE):TT:=fun σ H Q=>t σ H fun x H'=>∃k,x=.bl k∧Q k H'
theorem Qz8 {op:CmpOp}{r:R2} (ho:OpR X (compareOp op) r) (ha:PE X a ta) (hb:PE X b tb) (hm:behindInMarks op b=false):PT X (.Compare a [op] [b] pos) (Yx2 (tOp r ta tb)):=by
 intro pins s σ H Q I h
 refine wpAny_isTrue_Compare1 (thn (ha pins s σ H _ I h) fun v s1 ⟨x,H1,I1,r1,q1⟩=>thn (hb pins s1 σ H1 _ I1 q1) fun u s2 ⟨y,H2,I2,r2,q2⟩ =>
  thn (ho pins s2 σ H2 x y v u _ I2 r1 r2 q2) fun c s3 ⟨z,H3,I3,r3,k,e,q3⟩=>?_) hm
 subst e
 cases r3
 exact wpAny_truthy_bool ⟨H3,I3,q3⟩
def Yg7 (r r':R2) (ta tb tc:TE):TE:=fun σ H Q=>ta σ H fun x H1=>tb σ H1 fun y H2=>r x y H2 fun z H3=>∃k,z=.bl k ∧
 (if k=true then tc σ H3 fun w' H4=>r' y w' H4 Q else Q (.bl false) H3)
theorem Zr0 {op op':CmpOp}{r r':R2} (ho:OpR X (compareOp op) r) (ho':OpR X (compareOp op') r') (ha:PE X a ta) (hb:PE X b tb) (hc:PE X c tc)
  (hm:lastMarks [op,op'] [b,c]=false:=by with_unfolding_all rfl):PT X (.Compare a [op,op'] [b,c] pos) (Yx2 (Yg7 r r' ta tb tc)):=by
 intro pins s σ H Q I h
 refine isTrue_chain (thn (ha pins s σ H _ I h) fun v s1 ⟨x,H1,I1,r1,q1⟩=>test_link (thn (hb pins s1 σ H1 _ I1 q1) fun u s2 ⟨y,H2,I2,r2,q2⟩ =>
  thn (ho pins s2 σ H2 x y v u _ I2 r1 r2 q2) fun d s3 ⟨z,H3,I3,r3,k,e,q3⟩=>?_)) hm
 subst e
 cases r3
 refine wpAny_truthy_bool ?_
 cases k with
 | false =>
  obtain⟨k',e',q'⟩:=q3
  cases e'
  exact ite_ff ⟨H3,I3,q'⟩
 | true =>
  refine ite_tt (test_last (thn (hc pins s3 σ H3 _ I3 q3) fun w' s4 ⟨z',H4,I4,r4,q4⟩=>thn (ho' pins s4 σ H4 y z' u w' _ I4 r2 r4 q4) fun d' s5 ⟨z2,H5,I5,r5,k2,e2,q5⟩=>?_))
  subst e2
  cases r5
  exact wpAny_truthy_bool ⟨H5,I5,q5⟩
theorem Zf2:(sizeLine:Nat)<2^63:=by rw[sizeLine_eq];decide
theorem Zd9 {x:V}{us:List Value} (r:Vals [x] us):∃u,us=[u]∧RelV x u:=by
 cases r with
 | cons r1 r2=>cases r2;exact⟨_,rfl,r1⟩
theorem Xq7:Qs0 X (.type "int") (fun xs H Q=>(∃i,xs=[.int i]∧Q (.int i) H)∨∃k,xs=[.bl k]∧Q (.int (if k then 1 else 0)) H):=by
 intro pins s σ H xs us Q I r h
 rcases h with ⟨i,rfl,q⟩|⟨k,rfl,q⟩
 ·obtain⟨u,rfl,t,rfl⟩:=Zd9 r
  exact call_int_int ⟨.int i,H,I,⟨_,rfl⟩,q⟩
 ·obtain⟨u,rfl,r1⟩:=Zd9 r
  cases r1
  exact call_int_bool ⟨.int (if k then 1 else 0),H,I.tok _,⟨_,rfl⟩,q⟩
end
end L2
namespace L2
open PySem PySem.Spec PyProof.Rows
structure ObjM (h:Heap) (x dx C:Addr) (mA:Str→Option Value):Prop where
 obj:h.get? x=some (PySem.W.instObj C dx)
 ns:h.Ns1 dx mA
 ne:dx≠x
theorem Xc7 {h:Heap}{dx:Addr}{mA:Str→Option Value} (n:h.Ns1 dx mA):∃od,h.get? dx=some od∧∀name,PySem.W.lookIn name od=some (mA name):=by
 obtain⟨o,es,ep,ho,hd,hk,_,hm⟩:=n
 refine⟨o,ho,fun name=>?_⟩
 have e:=hm name
 unfold nsFind findBy at e
 rw[←Array.find?_toList]at e
 unfold PySem.W.lookIn
 rw[hd]
 dsimp only
 split
 ·rename_i y q
  rw[q]at e
  exact congrArg some e
 ·rename_i q
  rw[q]at e
  have a:es.toList.any (·.refKey)=false:=by
   rw[List.any_eq_false]
   intro y hy
   obtain⟨z,t,hkey⟩:=hk y (Array.mem_toList_iff.mp hy)
   simp[DictEntry.refKey,hkey]
  have a':¬es.toList.any (·.refKey)=true:=by rw[a];exact Bool.false_ne_true
  rw[if_neg a']
  exact congrArg some e
theorem ObjM.look {h:Heap}{x dx C:Addr}{mA:Str→Option Value} (I:ObjM h x dx C mA):∃od,PySem.W.InstAt h x (PySem.W.instObj C dx) C (some od)∧∀name,PySem.W.lookIn name od=some (mA name) :=
 let ⟨od,ho,hl⟩:=Xc7 I.ns
 ⟨od,⟨I.obj,rfl,rfl,ho⟩,hl⟩
section
variable {prog:Program}{w:World}{A:Around}{E:Value→Shared→Prop}{s:Shared}{K:PySem.W.Frag}{x dx C f:Addr}{mA:Str→Option Value}{name:Str}{v:Value}
theorem Yj4 {expr:Bool}{Q:Value→Shared→Prop} (X:K.In s.heap) (I:ObjM s.heap x dx C mA) (hg:PySem.W.plainGet K C name=true) (hh:PySem.W.hasDictIn K C=true)
  (ha:PySem.W.findIn K (.ref C) name=some none) (hv:mA name=some v) (hv':PySem.W.handedIn v=true) (h:Q v { s with toks:=s.toks+1 }) :
  wpAny (model prog w) A (getAttr (.ref x) name expr) Q E s:=by
 obtain⟨od,J,hl⟩:=I.look
 exact PySem.W.get_value X J (PySem.W.plainGet_of hg).1 (PySem.W.findObj_own hh ha rfl (by rw[hl,hv])) hv' h
theorem Xa3 {pl:Sem Bool}{Q:Value×List Value→Shared→Prop} (X:K.In s.heap) (I:ObjM s.heap x dx C mA) (hg:PySem.W.plainGet K C name=true)
  (hf:PySem.W.findIn K (.ref C) name=some (some (.ref f))) (ht:PySem.W.isFn K (.ref f)=true) (hv:mA name=none) (h:Q (.ref f,[.ref x]) s) :
  wpAny (model prog w) A (getMethod (.ref x) name pl) Q E s:=by
 obtain⟨od,J,hl⟩:=I.look
 exact PySem.W.method_fn X J (PySem.W.plainGet_of hg).1 (PySem.W.plainGet_of hg).2 hf (beq_iff_eq.mp ht) (by show (PySem.W.lookIn name od).map (·.isSome)=some false;rw[hl,hv];rfl) h
theorem Yj5 {ns:List Str}{Q:Unit→Shared→Prop} (X:K.In s.heap) (I:ObjM s.heap x dx C mA)
  (hs:PySem.W.findIn K (.ref C) "__setattr__" = some (some (.builtin "object.__setattr__"))) (hp:PySem.W.plainOver K C=true) (ht:PySem.W.takerIn K C name=some none) (hh:PySem.W.hasDictIn K C=true)
  (hw:PySem.Within mA ns) (hsz:ns.length≤sizeLine)
  (h:∀h',ObjM h' x dx C (fun y=>if y=name then some v else mA y)→Heap.SameBut dx s.heap h'→Q () { s with heap:=h',toks:=s.toks+2 }) :
  wpAny (model prog w) A (setAttr (.ref x) name v) Q E s:=by
 obtain⟨od,J,hl⟩:=I.look
 refine PySem.W.set_plain X J hs (PySem.W.osa_open (s:={ s with toks:=s.toks+1 }) (r:=none) X J hp ht fun b=>?_)
 obtain⟨cd,hc,hd'⟩:=PySem.W.any_some hh
 have hx:s.heap.get? x=some ⟨.ref C,some dx,.plain,#[]⟩:=I.obj
 refine wpAny_bind (wpAny_pure (wpAny_bind (wpAny_bind (wpAny_loadPart hx (wpAny_bind (PySem.W.Looks.here (s:={ s with toks:=s.toks+1 }) (PySem.W.looks_clsIn X hc) ?_))))))
 rw[hd']
 refine wpAny_pure (a:=some dx) (wpAny_bind (wpAny_pure (wpAny_bind ?_)))
 refine wpAny_nsSet1 (s:={ s with toks:=s.toks+1 }) I.ns fun h' hn2 hs2=>?_
 obtain⟨oD,esD,epD,hoD,hdD,hcD⟩:=hn2.count (PySem.Within.cons name v hw)
 refine wpAny_bind (wpAny_lookBehind hoD (by rw[hdD];exact pastItsLine_dict (Nat.le_trans hcD (by rw[List.length_cons];omega))) ?_)
 exact wpAny_pure (h _ ⟨(hs2.2 _ (Ne.symm I.ne)).trans I.obj,hn2,I.ne⟩ hs2)
theorem Xa4 {R:Result→Shared→Prop}{vs:List Value}{kw:List (Str×Value)} (X:K.In s.heap) (hm:PySem.W.makesIn K C=true)
  (hi:PySem.W.findIn K (.ref C) "__init__" = some (some (.ref f))) (hf:PySem.W.typeIn K (.ref f)=some (.type "function"))
  (h:codeAny (model prog w) (A.under (.builtin "type.__call__" ⟨.ref C::vs,kw⟩)) (.call (.ref f) ⟨.ref (s.heap.objs.size+1)::vs,kw⟩) (PySem.W.InitBack (s.heap.objs.size+1) R)
   { s with heap:=(s.heap.push PySem.W.emptyDict).push (PySem.W.instObj C s.heap.objs.size) }) :
  codeAny (model prog w) A (.call (.ref C) ⟨vs,kw⟩) R s:=by
 obtain⟨hh,g,d,t,os⟩:=s
 exact PySem.W.make_core (PySem.W.makes_of X hm) (PySem.W.looks_findIn X hi) (fun self=>PySem.W.bind_fn X self hf) (.inl rfl) h
end
def putF (f:Str) (v:V):List (Str×V)→List (Str×V)
 | []=>[(f,v)]
 | (g,x)::r=>if g=f then (g,v)::r else (g,x)::putF f v r
theorem Qq9 (f g:Str) (v:V):∀fs:List (Str×V),(putF f v fs).lookup g=if g=f then some v else fs.lookup g
 | []=>by
  show List.lookup g [(f,v)]=_
  by_cases h:g=f
  ·have hb:(g==f)=true:=beq_iff_eq.mpr h
   simp only[List.lookup,hb,if_pos h]
  ·have hb:(g==f)=false:=beq_eq_false_iff_ne.mpr h
   simp only[List.lookup,hb,if_neg h]
 | (k,x)::r=>by
  have ih:=Qq9 f g v r
  rw[show putF f v ((k,x)::r)=(if k=f then (k,v)::r else (k,x)::putF f v r) from rfl]
  by_cases hk:k=f
  ·rw[if_pos hk]
   by_cases h:g=k
   ·have hb:(g==k)=true:=beq_iff_eq.mpr h
    simp only[List.lookup,hb,if_pos (h.trans hk)]
   ·have hb:(g==k)=false:=beq_eq_false_iff_ne.mpr h
    simp only[List.lookup,hb,if_neg (fun e:g=f=>h (e.trans hk.symm))]
  ·rw[if_neg hk]
   by_cases h:g=k
   ·have hb:(g==k)=true:=beq_iff_eq.mpr h
    simp only[List.lookup,hb,if_neg (fun e:g=f=>hk (h.symm.trans e))]
   ·have hb:(g==k)=false:=beq_eq_false_iff_ne.mpr h
    simp only[List.lookup,hb]
    exact ih
theorem Zf3 (f:Str) (v:V):∀fs:List (Str×V),f∈(putF f v fs).map (·.1)∧∀g,g∈fs.map (·.1)→g∈(putF f v fs).map (·.1)
 | []=>⟨by simp[putF],fun g h=>by simp at h⟩
 | (k,x)::r=>by
  obtain⟨i1,i2⟩:=Zf3 f v r
  rw[show putF f v ((k,x)::r)=(if k=f then (k,v)::r else (k,x)::putF f v r) from rfl]
  by_cases hk:k=f
  ·rw[if_pos hk]
   subst hk
   exact⟨by simp,fun g h=>by simpa using h⟩
  ·rw[if_neg hk]
   refine⟨?_,fun g h=>?_⟩
   ·rw[List.map_cons]
    exact List.mem_cons_of_mem _ i1
   ·rw[List.map_cons]at h ⊢
    rcases List.mem_cons.mp h with e|e
    ·exact List.mem_cons.mpr (.inl e)
    ·exact List.mem_cons_of_mem _ (i2 g e)
theorem Qg3 (f:Str) (v:V):∀fs:List (Str×V),(putF f v fs).length≤fs.length+1
 | []=>by simp[putF]
 | (k,x)::r=>by
  have ih:=Qg3 f v r
  rw[show putF f v ((k,x)::r)=(if k=f then (k,v)::r else (k,x)::putF f v r) from rfl]
  by_cases hk:k=f
  ·rw[if_pos hk,List.length_cons,List.length_cons];omega
  ·rw[if_neg hk,List.length_cons,List.length_cons];omega
theorem RelO.some_of {v:V}{o:Option Value} (r:RelO (some v) o):∃u,o=some u∧RelV v u:=by
 cases o with
 | none=>exact(show False from r).elim
 | some u=>exact⟨u,rfl,r⟩
theorem RelO.none_of {o:Option Value} (r:RelO none o):o=none:=by
 cases o with
 | none=>rfl
 | some u=>exact(show False from r).elim
theorem Xc8 {v:V}{u:Value} (r:RelV v u):PySem.W.handedIn u=true:=by
 cases v with
 | non=>cases (show u=Value.none from r);rfl
 | bl b=>cases (show u=Value.bool b from r);rfl
 | int i=>obtain⟨t,e⟩:=(show ∃t,u=Value.int i t from r);cases e;rfl
 | str x=>obtain⟨t,e⟩:=(show ∃t,u=Value.str x t from r);cases e;rfl
 | byt b=>obtain⟨t,e⟩:=(show ∃t,u=Value.bytes b t from r);cases e;rfl
 | flt b=>obtain⟨t,e⟩:=(show ∃t,u=Value.float b t from r);cases e;rfl
 | ref a=>cases (show u=Value.ref a from r);rfl
 | ty n=>cases (show u=Value.type n from r);rfl
section
variable {P:Program}{w:World}{H H':Hp}{h h':Heap}{a C dx:Addr}{fs fs':List (Str×V)}
theorem Zl0 (hok:HOk P w H h) (e:H a=some (.ins C dx fs)):∃mA,ObjM h a dx C mA∧(∀f,RelO (fs.lookup f) (mA f))∧PySem.Within mA (fs.map (·.1))∧fs.length≤1000∧H dx=some (.own a):=by
 obtain⟨d,z,ne,ob,mA,n,r,q⟩:=(show Qv5 P w H h a (.ins C dx fs) from hok a _ e)
 exact⟨mA,⟨ob,n,ne⟩,r,q,z,d⟩
end
structure Cls (K:PySem.W.Frag) (C:Addr):Prop where
 pg:PySem.W.plainGet K C Str.empty=true
 hd:PySem.W.hasDictIn K C=true
 po:PySem.W.plainOver K C=true
 sa:PySem.W.findIn K (.ref C) "__setattr__" = some (some (.builtin "object.__setattr__"))
theorem Cls.get {K:PySem.W.Frag}{C:Addr} (c:Cls K C) (f:Str):PySem.W.plainGet K C f=true:=c.pg
def Qg5 (K:PySem.W.Frag) (C:Addr) (f:Str):Prop:=PySem.W.findIn K (.ref C) f=some none
theorem Qg5.taker {K:PySem.W.Frag}{C:Addr}{f:Str} (n:Qg5 K C f):PySem.W.takerIn K C f=some none:=by
 unfold PySem.W.takerIn
 rw[show PySem.W.findIn K (.ref C) f=some none from n]
 rfl
structure Con (K:PySem.W.Frag) (C:Addr) (f:Str) (v:V) (u:Value):Prop where
 at_:PySem.W.findIn K (.ref C) f=some (some u)
 rel:RelV v u
 get:PySem.W.specialIn K u "__get__" = some none
 cp:PySem.W.copiedNames.contains f=false
structure Meth (K:PySem.W.Frag) (C:Addr) (m:Str) (f:Addr):Prop where
 at_:PySem.W.findIn K (.ref C) m=some (some (.ref f))
 fn:PySem.W.isFn K (.ref f)=true
 kp:PySem.W.keepIn K (.ref f)=true
section
variable {X:Cx}{pins:List (Addr×Obj)}{σ:St}{H:Hp}{s:Shared}{a C dx:Addr}{fs:List (Str×V)}{f:Str}{v:V}{A:Around}{E:Value→Shared→Prop}
theorem Xu2 {b:Bool}{Q:Value→Shared→Prop} (I:Inv X pins σ H s) (e:H a=some (.ins C dx fs)) (c:Cls X.K C) (n:Qg5 X.K C f) (l:fs.lookup f=some v)
  (h:∀u s',Inv X pins σ H s'→RelV v u→Q u s'):wpAny (model X.prog X.w) A (getAttr (.ref a) f b) Q E s:=by
 obtain⟨mA,O,r,_,_,_⟩:=Zl0 I.hok e
 obtain⟨u,hu,ru⟩:=RelO.some_of (v:=v) (o:=mA f) (by rw[←l];exact r f)
 exact Yj4 I.kIn O (c.get f) c.hd n hu (Xc8 ru) (h u _ (I.tok _) ru)
theorem Zi1 {m:Str}{g:Addr}{pl:Sem Bool}{Q:Value×List Value→Shared→Prop} (I:Inv X pins σ H s) (e:H a=some (.ins C dx fs)) (c:Cls X.K C) (k:Meth X.K C m g) (l:fs.lookup m=none)
  (h:Q (.ref g,[.ref a]) s):wpAny (model X.prog X.w) A (getMethod (.ref a) m pl) Q E s:=by
 obtain⟨mA,O,r,_,_,_⟩:=Zl0 I.hok e
 have hn:mA m=none:=RelO.none_of (by rw[←l];exact r m)
 exact Xa3 I.kIn O (c.get m) k.at_ k.fn hn h
theorem Xu3 {y:V}{u:Value}{Q:Unit→Shared→Prop} (I:Inv X pins σ H s) (e:H a=some (.ins C dx fs)) (c:Cls X.K C) (n:Qg5 X.K C f) (hl:fs.length<1000) (ry:RelV y u)
  (h:∀s',Inv X pins σ (upd H a (.ins C dx (putF f y fs))) s'→Q () s'):wpAny (model X.prog X.w) A (setAttr (.ref a) f u) Q E s:=by
 obtain⟨mA,O,r,wi,_,ho⟩:=Zl0 I.hok e
 have hz:(fs.map (·.1)).length≤sizeLine:=by rw[List.length_map,sizeLine_eq];omega
 refine Yj5 I.kIn O c.sa c.po n.taker c.hd wi hz fun h' O' sb=>h _ ?_
 have hd:∃o,h'.get? dx=some o:=let ⟨o,_,_,e',_⟩:=O'.ns;⟨o,e'⟩
 refine I.write (x:=a) (e:=dx) (by rw[e];exact True.intro) (.inr ho) (fun b q hb z=>(sb.2 b hb).trans z) hd ?_
 refine⟨by rw[Qz1 O.ne];exact ho,?_,O.ne,O'.obj,_,O'.ns,fun g=>?_,fun g hg=>?_⟩
 ·have:=Qg3 f y fs;omega
 ·show RelO ((putF f y fs).lookup g) (if g=f then some u else mA g)
  rw[Qq9]
  by_cases q:g=f
  ·rw[if_pos q,if_pos q];exact ry
  ·rw[if_neg q,if_neg q];exact r g
 ·by_cases q:g=f
  ·rw[q];exact(Zf3 f y fs).1
  ·refine(Zf3 f y fs).2 g (wi g fun z=>hg ?_)
   show (if g=f then some u else mA g)=none
   rw[if_neg q];exact z
theorem Inv.made (I:Inv X pins σ H s):Inv X pins σ (upd (upd H s.heap.objs.size (.own (s.heap.objs.size+1))) (s.heap.objs.size+1) (.ins C s.heap.objs.size []))
  { s with heap:=(s.heap.push PySem.W.emptyDict).push (PySem.W.instObj C s.heap.objs.size) }:=by
 have e1:(s.heap.push PySem.W.emptyDict).get? s.heap.objs.size=some PySem.W.emptyDict:=Heap.get?_push_size s.heap rfl
 have e2:((s.heap.push PySem.W.emptyDict).push (PySem.W.instObj C s.heap.objs.size)).get? (s.heap.objs.size+1)=some (PySem.W.instObj C s.heap.objs.size):=by
  have:=Heap.get?_push_size (s.heap.push PySem.W.emptyDict) (o:=PySem.W.instObj C s.heap.objs.size) rfl
  rwa [Heap.size_push]at this
 have e3:(s.heap.push PySem.W.emptyDict).Ns s.heap.objs.size (fun _=>none):=⟨PySem.W.emptyDict,#[],_,e1,rfl,(fun e he=>absurd he (by simp)),fun _=>rfl⟩
 have I1:=I.laid (a:=s.heap.objs.size) (o:=.own (s.heap.objs.size+1)) (h':=s.heap.push PySem.W.emptyDict) (t':=s.toks) (fun b u q=>Heap.get?_push_of_some _ q) (Nat.le_refl _) ⟨_,e1⟩
 refine I1.laid (a:=s.heap.objs.size+1) (o:=.ins C s.heap.objs.size []) (t':=s.toks) (fun b u q=>Heap.get?_push_of_some _ q) (Nat.le_of_eq (Heap.size_push _ _)) ?_
 have ne:s.heap.objs.size≠s.heap.objs.size+1:=Nat.ne_of_lt (Nat.lt_succ_self _)
 refine⟨by rw[Qz1 ne,Qq1],Nat.zero_le _,ne,e2,fun _=>none,(Heap.Ns1.of_empty e3).at fun o q=>Heap.get?_push_of_some _ q,fun _=>True.intro,fun y hy=>absurd rfl hy⟩
theorem Yj6 {prog:Program}{w:World}{env:Env}{e:Expr}{f:Str}{pos:Pos}{s:Shared}{Q:Value→Shared→Prop} (hb:attributeBase e f env (eval e env)=eval e env)
  (h:wpAny (model prog w) A (eval e env) (fun o s₁=>wpAny (model prog w) A (getAttr o f true) Q E s₁) E s):wpAny (model prog w) A (eval (.Attribute e f pos) env) Q E s :=
 Attribute_any_ h (by rw[arm_eval_Attribute,hb])
end
def tFld (K:PySem.W.Frag) (ta:TE) (f:Str):TE:=fun σ H Q=>ta σ H fun x H1=>∃a C dx fs v,x=.ref a∧H1 a=some (.ins C dx fs)∧Cls K C∧Qg5 K C f∧fs.lookup f=some v∧Q v H1
def sFld (K:PySem.W.Frag) (ta tv:TE) (f:Str):TS:=fun D σ H=>tv σ H fun y H1=>ta σ H1 fun x H2=>∃a C dx fs,x=.ref a∧H2 a=some (.ins C dx fs)∧Cls K C∧Qg5 K C f∧fs.length<1000 ∧
 D.nx σ (upd H2 a (.ins C dx (putF f y fs)))
section
variable {X:Cx}{o e value:Expr}{f:Str}{pos pos' tpos:Pos}{ta tv:TE}
theorem Qx4 (he:PE X e ta) (hb:attributeBase e f X.env (eval e X.env)=eval e X.env):PE X (.Attribute e f pos) (tFld X.K ta f):=by
 intro pins s σ H Q I h
 refine Yj6 hb (thn (he pins s σ H _ I h) fun u s1 ⟨x,H1,I1,rx,a,C,dx,fs,v,ex,ea,c,n,l,q⟩=>?_)
 subst ex
 obtain rfl:u=Value.ref a:=rx
 exact Xu2 I1 ea c n l fun u' s2 I2 ru=>⟨v,H1,I2,ru,q⟩
theorem Ql9 (ha:PE X o ta) (hv:PE X value tv) (hs:swapsWith value (some (.Attribute o f pos')) pos.line X.env=pure false):PS X (.Assign [.Attribute o f pos'] value pos) (sFld X.K ta tv f):=by
 intro pins s σ H D I h
 refine plainObj_wpAny_Assign_Attribute (thn (hv pins s σ H _ I h) fun u s1 ⟨y,H1,I1,ry,q⟩=>thn (ha pins s1 σ H1 _ I1 q) fun ov s2 ⟨x,H2,I2,rx,a,C,dx,fs,ex,ea,c,n,l,q2⟩=>?_) hs
 subst ex
 obtain rfl:ov=Value.ref a:=rx
 exact Xu3 I2 ea c n l ry fun s3 I3=>⟨σ,_,I3,q2⟩
end
section
variable {X:Cx}{pins:List (Addr×Obj)}{σ:St}{H:Hp}{s:Shared}{A:Around}{E:Value→Shared→Prop}{Q:Value→Shared→Prop}{c:Value}{b:Bool}
inductive TyOf (K:PySem.W.Frag) (H:Hp):V→Value→Prop where
 | non:TyOf K H .non (.type "NoneType")
 | bl (x:Bool):TyOf K H (.bl x) (.type "bool")
 | int (i:Int):TyOf K H (.int i) (.type "int")
 | str (x:Str):TyOf K H (.str x) (.type "str")
 | flt (x:UInt64):TyOf K H (.flt x) (.type "float")
 | lst {a:Addr}{xs:List V} (e:H a=some (.lst xs)):TyOf K H (.ref a) (.type "list")
 | frz {a:Addr}{o:Obj}{xs:List V} (e:H a=some (.frz o (.lst xs))):TyOf K H (.ref a) (.type "list")
 | tup {a:Addr}{xs:List V} (e:H a=some (.tup xs)):TyOf K H (.ref a) (.type "tuple")
 | dK {a:Addr}{kvs:List (Key×V)} (e:H a=some (.dK kvs)):TyOf K H (.ref a) (.type "dict")
 | dT {a:Addr}{kvs:List (List Key×V)} (e:H a=some (.dT kvs)):TyOf K H (.ref a) (.type "dict")
 | ins {a C dx:Addr}{fs:List (Str×V)} (e:H a=some (.ins C dx fs)) (cl:Cls K C) (ha:PySem.W.findIn K (.ref C) "__class__" = some (some (.builtin "object.__class__")))
   (hn:PySem.W.specialIn K (.builtin "object.__class__") "__get__" = some (some (.builtin "getset_descriptor.__get__"))) (htk:PySem.W.takesIn K (.builtin "object.__class__")=some true)
   (hm:PySem.W.mroIn K C (.type "object")=some true):TyOf K H (.ref a) (.ref C)
theorem Xc9 {x:V}{u t:Value} (I:Inv X pins σ H s) (rx:RelV x u) (ty:TyOf X.K H x t) (e:PySem.W.kitOne X.K t c=some b) (h:∀tk,Q (.bool b) { s with toks:=tk }) :
  wpAny (model X.prog X.w) A (call (.builtin "isinstance") [u,c]) Q E s:=by
 cases ty with
 | non=>cases (show u=Value.none from rx);exact PySem.W.kia_one PySem.W.kitx_none I.kIn True.intro e (fun z=>nomatch z) h
 | bl y=>cases (show u=Value.bool y from rx);exact PySem.W.kia_one PySem.W.kitx_bool I.kIn True.intro e (fun z=>nomatch z) h
 | int i=>obtain⟨t,q⟩:=(show ∃t,u=Value.int i t from rx);cases q;exact PySem.W.kia_one PySem.W.kitx_int I.kIn True.intro e (fun z=>nomatch z) h
 | str y=>obtain⟨t,q⟩:=(show ∃t,u=Value.str y t from rx);cases q;exact PySem.W.kia_one PySem.W.kitx_str I.kIn True.intro e (fun z=>nomatch z) h
 | flt y=>obtain⟨t,q⟩:=(show ∃t,u=Value.float y t from rx);cases q;exact PySem.W.kia_one PySem.W.kitx_float I.kIn True.intro e (fun z=>nomatch z) h
 | @lst a xs ea =>
  cases (show u=Value.ref a from rx)
  obtain⟨_,_,n,_,h1⟩:=(show Qv5 X.prog X.w H s.heap a (.lst xs) from I.hok a _ ea)
  exact PySem.W.kia_one PySem.W.kitx_list I.kIn ⟨_,h1,rfl⟩ e (fun z=>nomatch z) h
 | @frz a ob xs ea =>
  cases (show u=Value.ref a from rx)
  obtain⟨_,_,_,n,_,h1⟩:=(show Qv5 X.prog X.w H s.heap a (.frz ob (.lst xs)) from I.hok a _ ea)
  exact PySem.W.kia_one PySem.W.kitx_list I.kIn ⟨_,h1,rfl⟩ e (fun z=>nomatch z) h
 | @tup a xs ea =>
  cases (show u=Value.ref a from rx)
  obtain⟨_,_,_,p⟩:=(show Qv5 X.prog X.w H s.heap a (.tup xs) from I.hok a _ ea)
  obtain⟨o,h1,h2,_⟩:=p
  exact PySem.W.kia_one PySem.W.kitx_tuple I.kIn ⟨o,h1,h2⟩ e (fun z=>nomatch z) h
 | @dK a kvs ea =>
  cases (show u=Value.ref a from rx)
  obtain⟨_,_,vs,_,p⟩:=(show Qv5 X.prog X.w H s.heap a (.dK kvs) from I.hok a _ ea)
  obtain⟨o,es,ep,h1,h2,_⟩:=p
  exact PySem.W.kia_one PySem.W.kitx_dict I.kIn ⟨o,h1,h2.1⟩ e (fun z=>nomatch z) h
 | @dT a kvs ea =>
  cases (show u=Value.ref a from rx)
  obtain⟨_,_,xs,_,o,es,ep,h1,h2,_⟩:=(show Qv5 X.prog X.w H s.heap a (.dT kvs) from I.hok a _ ea)
  exact PySem.W.kia_one PySem.W.kitx_dict I.kIn ⟨o,h1,h2.1⟩ e (fun z=>nomatch z) h
 | @ins a C dx fs ea cl ha hn htk hm =>
  cases (show u=Value.ref a from rx)
  obtain⟨mA,O,_⟩:=Zl0 I.hok ea
  obtain⟨od,J,_⟩:=O.look
  exact PySem.W.kia_one (PySem.W.kitx_own (cl.get _) cl.hd ha hn htk hm) I.kIn J e (fun z=>nomatch z) h
end
end L2
namespace L2
open PySem PySem.Spec PyProof.Rows
structure Room (k:Nat) (A:Around):Prop where
 hd:A.handled=none
 dp:A.depth+3*k+5<recursionLimit
 un:A.units+16*k+200<cLine
theorem Room.mono {j k:Nat}{A:Around} (r:Room k A) (h:j≤k):Room j A:=⟨r.hd,by have:=r.dp;omega,by have:=r.un;omega⟩
theorem Room.deeper {k:Nat}{A:Around} (r:Room (k+1) A) (env:Env):Room k (A.deeper env) :=
 ⟨r.hd,by have:=r.dp;show A.depth+1+3*k+5<_;omega,by have:=r.un;show A.units+3+16*k+200<_;omega⟩
theorem Xu4 {A:Around}{C:Addr}{us:List Value}{kw:List (Str×Value)}:(A.under (.builtin "type.__call__" ⟨.ref C::us,kw⟩)).depth=A.depth+1:=by
 first|rfl|simp[Around.under,Code.weight,Code.isCreation,Code.isGuard,Code.isCaller,Code.frames,Code.isFrame,guardIds]
theorem Xu5 {A:Around}{C:Addr}{us:List Value}{kw:List (Str×Value)}:(A.under (.builtin "type.__call__" ⟨.ref C::us,kw⟩)).units=A.units+1:=by
 first|rfl|simp[Around.under,Code.cUnits,Code.frames,Code.isFrame]
theorem Room.make {k:Nat}{A:Around} (r:Room (k+1) A) (C:Addr) (us:List Value) (kw:List (Str×Value)):Room k (A.under (.builtin "type.__call__" ⟨.ref C::us,kw⟩)) :=
 ⟨r.hd,by have:=r.dp;rw[Xu4];omega,by have:=r.un;rw[Xu5];omega⟩
theorem Room.depth {k:Nat}{A:Around} (r:Room k A):A.depth<recursionLimit:=by have:=r.dp;omega
theorem Room.units {k:Nat}{A:Around} (r:Room k A):A.units+64<cLine:=by have:=r.un;omega
def tNil:TA:=fun _ H Q=>Q [] H
def Yp8 (ta:TE) (tr:TA):TA:=fun σ H Q=>ta σ H fun x H1=>tr σ H1 fun xs H2=>Q (x::xs) H2
section
variable {X:Cx}{e:Expr}{es:List Expr}{te:TE}{t:TA}{pos:Pos}
theorem Qq3:PA X [] tNil:=fun _ _ _ _ H Q I h=>Calls.spliced_nil ⟨[],H,I,.nil,h⟩
theorem Qq0 (ha:PE X e te) (hr:PA X es t) (hs:starEach (e::es) X.env=(false,eval e X.env)::starEach es X.env:=by rfl):PA X (e::es) (Yp8 te t):=by
 intro pos pins s σ H Q I h
 rw[hs]
 show wpAny _ _ (spliced ((false,eval e X.env)::backTo pos (starEach es X.env))) _ _ s
 refine Calls.spliced_cons (thn (ha pins s σ H _ I h) fun u s1 ⟨x,H1,I1,r1,q1⟩=>?_)
 exact thn (hr pos pins s1 σ H1 _ I1 q1) fun us s2 ⟨xs,H2,I2,r2,q2⟩=>⟨x::xs,H2,I2,.cons r1 r2,q2⟩
def tTup (t:TA):TE:=fun σ H Q=>t σ H fun xs H1=>xs.length≤sizeLine∧∀p,H1 p=none→Q (.ref p) (upd H1 p (.tup xs))
def tLst (t:TA):TE:=fun σ H Q=>t σ H fun xs H1=>xs.length≤sizeLine∧∀p,H1 p=none→Q (.ref p) (upd H1 p (.lst xs))
theorem Qy9 {x1} (h:PA X es t):PE X (.Tuple es x1 pos) (tTup t):=by
 intro pins s σ H Q I hq
 refine wpAny_Tuple_spliced (thn (h pos pins s σ H _ I hq) fun us s1 ⟨xs,H1,I1,r,z,q⟩=>⟨by rw[←r.length];exact z,?_⟩)
 have hf:H1 s1.heap.objs.size=none:=I1.hok.fresh (Nat.le_refl _)
 refine⟨.ref s1.heap.objs.size,upd H1 s1.heap.objs.size (.tup xs),I1.laid (t':=s1.toks) (fun b u e=>Heap.get?_push_of_some _ e) (Nat.le_refl _) ?_,rfl,q _ hf⟩
 exact⟨z,us,r,⟨_,Heap.get?_push_size _ rfl,rfl,_,rfl⟩⟩
theorem Qv7 (h:PA X es t):PE X (.List es pos) (tLst t):=by
 intro pins s σ H Q I hq
 refine wpAny_List_spliced (thn (h pos pins s σ H _ I hq) fun us s1 ⟨xs,H1,I1,r,z,q⟩=>⟨by rw[←r.length];exact z,?_⟩)
 have hf:H1 s1.heap.objs.size=none:=I1.hok.fresh (Nat.le_refl _)
 refine⟨.ref s1.heap.objs.size,upd H1 s1.heap.objs.size (.lst xs),I1.laid (t':=s1.toks) (fun b u e=>Heap.get?_push_of_some _ e) (Nat.le_refl _) ?_,rfl,q _ hf⟩
 exact⟨z,us,0,r,Heap.get?_push_size _ rfl⟩
end
abbrev Sp:=List V→Hp→VK→XK→Prop
abbrev CXT:=List Env→Hp→Shared→XK→Value→Shared→Prop
structure Env0 (P:Program) (w:World) (K:PySem.W.Frag) (mg:Str→Option Value) (base:Heap) (A:Around) (outer:List Env) (s:Shared) (H:Hp):Prop where
 frames:A.frames=some outer
 mod:Mod K mg base
 bs:∀b o,base.get? b=some o→s.heap.get? b=some o∧H b=none
 bsz:base.objs.size≤s.heap.objs.size
 funs:s.heap.FunFrames base outer
 frf:∀b∈frs outer,H b=none
 hok:HOk P w H s.heap
 bare:AllBare s.gens
def CE (outer:List Env) (P:Program) (w:World) (H:Hp) (s:Shared) (Q:VK) (u:Value) (s':Shared):Prop :=
 ∃v H',s'.os=s.os∧AllBare s'.gens∧Un (frs outer) [] H H' s.heap s'.heap∧HOk P w H' s'.heap∧RelV v u∧Q v H'
def CR (CX:CXT) (outer:List Env) (P:Program) (w:World) (H:Hp) (s:Shared) (Q:VK) (E:XK) (r:Result) (s':Shared):Prop :=
 match r with
 | .ok (.ret u)=>CE outer P w H s Q u s'
 | .ok _=>False
 | .error e=>CX outer H s E e s'
structure FnOk (P:Program) (w:World) (K:PySem.W.Frag) (mg:Str→Option Value) (base:Heap) (CX:CXT) (k:Nat) (f:Addr) (fd:FuncData) (ps:List Str) (sp:Sp):Prop where
 len:∀vs H Q E,sp vs H Q E→vs.length=ps.length
 run:∀(A:Around) (outer:List Env) (s:Shared) (H:Hp) (args:Args) (us:List Value) (vs:List V) (Q:VK) (E:XK),Room k A→Env0 P w K mg base A outer s H→BindsTo s fd args (ps.zip us)→Vals vs us→sp vs H Q E →
  codeAny (model P w) A (.call (.ref f) args) (CR CX outer P w H s Q E) s
theorem Env0.make {P:Program}{w:World}{K:PySem.W.Frag}{mg:Str→Option Value}{base:Heap}{A:Around}{outer:List Env}{s:Shared}{H:Hp} (e:Env0 P w K mg base A outer s H) (C:Addr) (us:List Value) (kw:List (Str×Value)) :
  Env0 P w K mg base (A.under (.builtin "type.__call__" ⟨.ref C::us,kw⟩)) outer s H:=⟨by first|exact e.frames|(simpa [Around.under,Code.envs,Code.isFrame,pushEnvs] using e.frames),e.mod,e.bs,e.bsz,e.funs,e.frf,e.hok,e.bare⟩
section
variable {X:Cx}{pins:List (Addr×Obj)}{σ:St}{H:Hp}{s s':Shared}
theorem Inv.env0 (I:Inv X pins σ H s):Env0 X.prog X.w X.K X.mg X.base X.A X.stack s H :=
 ⟨I.ok.frames,I.ok.mod,I.bs,Nat.le_trans I.ok.bsz I.sz,I.stack,I.stkFree,I.hok,I.bare⟩
theorem Inv.after {Q:VK}{u:Value} (I:Inv X pins σ H s) (h:CE X.stack X.prog X.w H s Q u s'):EP X pins σ Q u s':=by
 obtain⟨v,H',os,bare,un,hok,r,q⟩:=h
 obtain⟨hh,g,d,t,os'⟩:=s'
 obtain rfl:os'=s.os:=os
 exact⟨v,H',I.call (h':=hh) (g':=g) (d':=d) (t':=t) (ch:=[]) un hok bare (fun b z=>absurd z (by simp)),r,q⟩
end
def Yx3 (sp:Sp) (dvs:List V) (E:XK) (t:TA):TE:=fun σ H Q=>t σ H fun vs H1=>sp (vs++dvs) H1 Q E
def Xk8 (C:Addr) (m:Str) (sp:Sp) (dvs:List V) (E:XK) (ta:TE) (t:TA):TE:=fun σ H Q=>ta σ H fun x H1=>∃a dx fs,x=.ref a∧H1 a=some (.ins C dx fs)∧fs.lookup m=none ∧
 t σ H1 fun vs H2=>sp (x::(vs++dvs)) H2 Q E
def Yx4 (C:Addr) (sp:Sp) (dvs:List V) (E:XK) (t:TA):TE:=fun σ H Q=>t σ H fun vs H1=>∀x dx,H1 x=none→H1 dx=none→dx≠x →
 sp (.ref x::(vs++dvs)) (upd (upd H1 dx (.own x)) x (.ins C dx [])) (fun v H2=>v=.non∧Q (.ref x) H2) E
def Qn8 (K:PySem.W.Frag) (fd:FuncData) (ps:List Str) (ds:List Value):Prop :=
 ∀(s:Shared) (us:List Value),K.In s.heap→(us++ds).length=ps.length→BindsTo s fd ⟨us,[]⟩ (ps.zip (us++ds))
theorem Qn8.all {K:PySem.W.Frag}{fd:FuncData}{ps:List Str} (h:∀us:List Value,us.length=ps.length→bindArgs fd ⟨us,[]⟩=pure (ps.zip us)):Qn8 K fd ps []:=fun s us _ hl=>by
 rw[List.append_nil]at hl ⊢
 exact .of_eq (h us hl)
def Zk3 (CX:CXT) (X:Cx) (E:XK):Prop:=∀(pins:List (Addr×Obj)) (σ:St) (H:Hp) (s:Shared) (e:Value) (s':Shared),Inv X pins σ H s→CX X.stack H s E e s'→X.xe e s'
section
variable {X:Cx}{CX:CXT}{k:Nat}{f C:Addr}{fd:FuncData}{ps:List Str}{sp:Sp}{dvs:List V}{ds:List Value}{E:XK}{x m:Str}{p pos apos:Pos}{e o:Expr}{es:List Expr}{ta:TE}{t:TA}
theorem Xv8 {pins:List (Addr×Obj)}{σ:St}{H:Hp}{s:Shared}{Q:VK}{us:List Value}{vs:List V} (F:FnOk X.prog X.w X.K X.mg X.base CX k f fd ps sp) (hr:Room k X.A) (hb:Qn8 X.K fd ps ds) (hd:Vals dvs ds) (hx:Zk3 CX X E)
  (I:Inv X pins σ H s) (r:Vals vs us) (h:sp (vs++dvs) H Q E):wpAny (model X.prog X.w) X.A (call (.ref f) us) (EP X pins σ Q) X.xe s:=by
 have r2:Vals (vs++dvs) (us++ds):=r.append hd
 have hl:(us++ds).length=ps.length:=by rw[←r2.length];exact F.len _ _ _ _ h
 refine wpAny_call (codeAny_mono (F.run X.A X.stack s H ⟨us,[]⟩ (us++ds) (vs++dvs) Q E hr I.env0 (hb s us I.kIn hl) r2 h) fun r s' hq=>?_)
 cases r with
 | error e=>exact hx pins σ H s e s' I hq
 | ok fl =>
  cases fl with
  | ret u=>exact I.after hq
  | next=>exact False.elim hq
  | brk=>exact False.elim hq
  | cont=>exact False.elim hq
theorem Yj7 (F:FnOk X.prog X.w X.K X.mg X.base CX k f fd ps sp) (hr:Room k X.A) (hg:Gl X x) (hm:X.mg x=some (.ref f)) (hk:PySem.W.keepIn X.K (.ref f)=true) (hb:Qn8 X.K fd ps ds) (hd:Vals dvs ds) (hx:Zk3 CX X E)
  (ha:PA X (e::es) t) (hdb:(x==("__debug__" : Str))=false:=by decide) (he:starEach (e::es) X.env=(false,eval e X.env)::starEach es X.env:=by rfl) (hpl:(backTo pos (starEach es X.env)).any (·.1)=false:=by rfl) :
  PE X (.Call (.Name x p) (e::es) [] pos) (Yx3 sp dvs E t):=by
 intro pins s σ H Q I h
 refine wpAny_Call_Name_kw (Xp1 I hg hm ?_ hdb)
 refine PySem.W.callWith_K (h₀:=X.base) I.ok.mod.kin hk (thn (ha pos pins s σ H _ I h) fun us s1 ⟨vs,H1,I1,r,q⟩=>⟨I1.kIn,?_⟩) he hpl
 exact Xv8 F hr hb hd hx I1 r q
theorem Yj8 {pl:Sem Bool} (he:PE X o ta) (c:Cls X.K C) (hm:Meth X.K C m f) (F:FnOk X.prog X.w X.K X.mg X.base CX k f fd ps sp) (hr:Room k X.A) (hb:Qn8 X.K fd ps ds) (hd:Vals dvs ds) (hx:Zk3 CX X E) (ha:PA X (e::es) t)
  (hst:starEach (e::es) X.env=(false,eval e X.env)::starEach es X.env:=by rfl) (hpl:(backTo pos (starEach es X.env)).any (·.1)=false:=by rfl)
  (ht:eval (.Call (.Attribute o m apos) (e::es) [] pos) X.env=(do
   let ov ←eval o X.env
   standAt apos.atName
   let (f,first) ←holding [ov] (getMethod ov m pl)
   callWith pos f first (backTo pos (starEach (e::es) X.env)) (backToKw pos (keywordEach [] X.env))):=by rfl) :
  PE X (.Call (.Attribute o m apos) (e::es) [] pos) (Xk8 C m sp dvs E ta t):=by
 intro pins s σ H Q I h
 refine PySem.W.methodCall_KW (pl:=pl) (thn (he pins s σ H _ I h) fun u s1 ⟨x,H1,I1,rx,a,dx,fs,ex,ea,l,q⟩=>?_) ht
 subst ex
 obtain rfl:u=Value.ref a:=rx
 refine Zi1 I1 ea c hm l ?_
 refine PySem.W.callWith_K (first:=[.ref a]) (h₀:=X.base) I.ok.mod.kin hm.kp (thn (ha pos pins s1 σ H1 _ I1 q) fun us s2 ⟨vs,H2,I2,r,q2⟩=>⟨I2.kIn,?_⟩) hst hpl
 exact Xv8 (us:=.ref a::us) (vs:=.ref a::vs) F hr hb hd hx I2 (.cons rfl r) q2
theorem Xa5 {pl:Sem Bool} (he:PE X o ta) (c:Cls X.K C) (hm:Meth X.K C m f) (F:FnOk X.prog X.w X.K X.mg X.base CX k f fd ps sp) (hr:Room k X.A) (hb:Qn8 X.K fd ps ds) (hd:Vals dvs ds) (hx:Zk3 CX X E)
  (ht:eval (.Call (.Attribute o m apos) [] [] pos) X.env=(do
   let ov ←eval o X.env
   standAt apos.atName
   let (f,first) ←holding [ov] (getMethod ov m pl)
   callWith pos f first (backTo pos (starEach [] X.env)) (backToKw pos (keywordEach [] X.env))):=by rfl) :
  PE X (.Call (.Attribute o m apos) [] [] pos) (Xk8 C m sp dvs E ta tNil):=by
 intro pins s σ H Q I h
 refine PySem.W.methodCall_KW (pl:=pl) (thn (he pins s σ H _ I h) fun u s1 ⟨x,H1,I1,rx,a,dx,fs,ex,ea,l,q⟩=>?_) ht
 subst ex
 obtain rfl:u=Value.ref a:=rx
 refine Zi1 I1 ea c hm l ?_
 exact PySem.W.callWith_K0 (first:=[.ref a]) I1.kIn hm.kp (Xv8 (us:=[.ref a]) (vs:=[.ref a]) F hr hb hd hx I1 (.cons rfl .nil) q)
structure Mk (K:PySem.W.Frag) (C f:Addr):Prop where
 makes:PySem.W.makesIn K C=true
 init:PySem.W.findIn K (.ref C) "__init__" = some (some (.ref f))
 fn:PySem.W.isFn K (.ref f)=true
 kp:PySem.W.keepIn K (.ref C)=true
theorem Xa6 {pins:List (Addr×Obj)}{σ:St}{H:Hp}{s:Shared}{Q:VK}{us:List Value}{vs:List V} (M:Mk X.K C f) (F:FnOk X.prog X.w X.K X.mg X.base CX k f fd ps sp) (hr:Room (k+1) X.A) (hb:Qn8 X.K fd ps ds) (hd:Vals dvs ds)
  (hx:Zk3 CX X E) (I:Inv X pins σ H s) (r:Vals vs us)
  (h:∀x dx,H x=none→H dx=none→dx≠x→sp (.ref x::(vs++dvs)) (upd (upd H dx (.own x)) x (.ins C dx [])) (fun v H2=>v=.non∧Q (.ref x) H2) E) :
  wpAny (model X.prog X.w) X.A (call (.ref C) us) (EP X pins σ Q) X.xe s:=by
 have hq:=h (s.heap.objs.size+1) s.heap.objs.size (I.hok.fresh (Nat.le_succ _)) (I.hok.fresh (Nat.le_refl _)) (Nat.ne_of_lt (Nat.lt_succ_self _))
 have I2:=Inv.made (C:=C) I
 have r2:Vals (V.ref (s.heap.objs.size+1)::(vs++dvs)) (Value.ref (s.heap.objs.size+1)::(us++ds)):=.cons rfl (r.append hd)
 have hl:(Value.ref (s.heap.objs.size+1)::us++ds).length=ps.length:=by
  have e:=r2.length
  rw[F.len _ _ _ _ hq]at e
  exact e.symm
 refine wpAny_call (Xa4 (f:=f) I.kIn M.makes M.init (beq_iff_eq.mp M.fn) (codeAny_mono (F.run _ X.stack _ _ ⟨Value.ref (s.heap.objs.size+1)::us,[]⟩ (Value.ref (s.heap.objs.size+1)::(us++ds)) _ _ E (hr.make C us [])
  (I2.env0.make C us []) (hb _ (Value.ref (s.heap.objs.size+1)::us) I2.kIn hl) r2 hq) fun r s' hq'=>?_))
 cases r with
 | error e=>exact hx pins σ _ _ e s' I2 hq'
 | ok fl =>
  cases fl with
  | ret u =>
   obtain⟨v,H',I3,rv,ev,q3⟩:=I2.after hq'
   subst ev
   exact⟨rv,⟨V.ref (s.heap.objs.size+1),H',I3,rfl,q3⟩⟩
  | next=>exact False.elim hq'
  | brk=>exact False.elim hq'
  | cont=>exact False.elim hq'
theorem Yj9 (M:Mk X.K C f) (F:FnOk X.prog X.w X.K X.mg X.base CX k f fd ps sp) (hr:Room (k+1) X.A) (hg:Gl X x) (hm:X.mg x=some (.ref C)) (hb:Qn8 X.K fd ps ds) (hd:Vals dvs ds) (hx:Zk3 CX X E)
  (ha:PA X (e::es) t) (hdb:(x==("__debug__" : Str))=false:=by decide) (he:starEach (e::es) X.env=(false,eval e X.env)::starEach es X.env:=by rfl) (hpl:(backTo pos (starEach es X.env)).any (·.1)=false:=by rfl) :
  PE X (.Call (.Name x p) (e::es) [] pos) (Yx4 C sp dvs E t):=by
 intro pins s σ H Q I h
 refine wpAny_Call_Name_kw (Xp1 I hg hm ?_ hdb)
 refine PySem.W.callWith_K (h₀:=X.base) I.ok.mod.kin M.kp (thn (ha pos pins s σ H _ I h) fun us s1 ⟨vs,H1,I1,r,q⟩=>⟨I1.kIn,?_⟩) he hpl
 exact Xa6 M F hr hb hd hx I1 r q
end
section
variable {X:Cx}{CX:CXT}{k:Nat}{f C:Addr}{fd:FuncData}{ps ks:List Str}{sp:Sp}{E:XK}{x m:Str}{p pos apos kpos:Pos}{e o:Expr}{es:List Expr}{kws:List Keyword}{te ta:TE}{t tk:TA}{nm:Option Str}
structure KBinds (K:PySem.W.Frag) (fd:FuncData) (ps ks:List Str) (g:List Value→List Value→List Value) (gV:List V→List V→List V):Prop where
 to:∀(s:Shared) (us ws:List Value),K.In s.heap→(g us ws).length=ps.length→BindsTo s fd ⟨us,ks.zip ws⟩ (ps.zip (g us ws))
 rel:∀{vs:List V}{us:List Value}{zs:List V}{ws:List Value},Vals vs us→Vals zs ws→Vals (gV vs zs) (g us ws)
variable {g:List Value→List Value→List Value}{gV:List V→List V→List V}
end
structure FnScope (N P:List Str) (sc:Scope):Prop where
 kind:sc.kind=.function
 co:sc.isCoroutine=false
 gen:sc.isGenerator=false
 nd:N.Nodup
 pre:N.take P.length=P
 par:∀x∈P,sc.names.lookup x=some .local∨sc.names.lookup x=some .cell
 nofree:∀y∈sc.names,y.2≠.free
theorem Xq8 {kindOf:Str→Option NameKind}{x:Str}:∀{binds:List (Str×Value)}{m:Str→Option Value},(∀v,(x,v)∉binds)→bindL kindOf binds m x=m x
 | [],_,_=>rfl
 | (n,v)::r,m,h=>by
  unfold bindL
  rw[Xq8 fun w hw=>h w (List.mem_cons_of_mem _ hw)]
  split
  ·have:x≠n:=by rintro rfl;exact h v List.mem_cons_self
   simp[this]
  ·rfl
theorem Xq9 {kindOf:Str→Option NameKind}{x:Str}:∀{binds:List (Str×Value)}{m:Str→Option Value},(∀v,(x,v)∉binds)→bindC kindOf binds m x=m x
 | [],_,_=>rfl
 | (n,v)::r,m,h=>by
  unfold bindC
  rw[Xq9 fun w hw=>h w (List.mem_cons_of_mem _ hw)]
  split
  ·rfl
  ·have:x≠n:=by rintro rfl;exact h v List.mem_cons_self
   simp[this]
theorem Xz0 {kindOf:Str→Option NameKind}{x:Str}{v:Value}:∀{P:List Str}{vs:List Value}{i:Nat}{m:Str→Option Value},P.Nodup→P[i]?=some x→vs[i]?=some v→kindOf x=some .local →
  bindL kindOf (P.zip vs) m x=some v
 | [],_,_,_,_,h,_,_=>by simp at h
 | _::_,[],_,_,_,_,h,_=>by simp at h
 | p::P,w::vs,0,m,nd,h1,h2,hk=>by
  simp at h1 h2;subst h1;subst h2
  show bindL kindOf ((p,w)::P.zip vs) m p=_
  unfold bindL
  rw[Xq8 fun v hv=>(List.nodup_cons.mp nd).1 (List.of_mem_zip hv).1,if_pos hk]
  simp
 | p::P,w::vs,i+1,m,nd,h1,h2,hk=>by
  show bindL kindOf ((p,w)::P.zip vs) m x=_
  unfold bindL
  exact Xz0 (i:=i) (List.nodup_cons.mp nd).2 (by simpa using h1) (by simpa using h2) hk
theorem Xz1 {kindOf:Str→Option NameKind}{x:Str}{v:Value}:∀{P:List Str}{vs:List Value}{i:Nat}{m:Str→Option Value},P.Nodup→P[i]?=some x→vs[i]?=some v→kindOf x≠some .local →
  bindC kindOf (P.zip vs) m x=some v
 | [],_,_,_,_,h,_,_=>by simp at h
 | _::_,[],_,_,_,_,h,_=>by simp at h
 | p::P,w::vs,0,m,nd,h1,h2,hk=>by
  simp at h1 h2;subst h1;subst h2
  show bindC kindOf ((p,w)::P.zip vs) m p=_
  unfold bindC
  rw[Xq9 fun v hv=>(List.nodup_cons.mp nd).1 (List.of_mem_zip hv).1,if_neg hk]
  simp
 | p::P,w::vs,i+1,m,nd,h1,h2,hk=>by
  show bindC kindOf ((p,w)::P.zip vs) m x=_
  unfold bindC
  exact Xz1 (i:=i) (List.nodup_cons.mp nd).2 (by simpa using h1) (by simpa using h2) hk
def Zw3 (N:List Str) (vs:List V):St:=vs.map some++List.replicate (N.length-vs.length) none
def cxOf (CX:CXT) (P:Program) (w:World) (K:PySem.W.Frag) (mg:Str→Option Value) (base:Heap) (N:List Str) (qual:Str) (scope:Scope) (f:Addr) (cd:Value) (A:Around) (outer:List Env) (s:Shared) (H:Hp) (E:XK):Cx where
 prog:=P
 w:=w
 K:=K
 mg:=mg
 base:=base
 A:=A.deeper (envOfC qual scope s.heap.objs.size f cd)
 N:=N
 s₀:=s
 H₀:=H
 env:=envOfC qual scope s.heap.objs.size f cd
 outer:=outer
 stack:=envOfC qual scope s.heap.objs.size f cd::outer
 ex:=[]
 calm:=true
 fn:=fun _=>true
 pn:=[]
 xe:=fun e s'=>wpAny (model P w) (A.deeper (envOfC qual scope s.heap.objs.size f cd)) (leaving (envOfC qual scope s.heap.objs.size f cd) e) (fun _ s''=>CX outer H s E e s'') (fun e' s''=>CX outer H s E e' s'') s'
theorem Xv9 {sc:Scope}{n:Nat}{x:Str} (h:sc.names.lookup x=some .cell):∃c,(cellsFrom n sc.names []).lookup x=some c:=by
 have q:=PySem.W.cellsFrom_some sc.names n [] (.inl h)
 exact Option.isSome_iff_exists.mp q
theorem Xr0 {CX:CXT}{P:Program}{w:World}{K:PySem.W.Frag}{mg:Str→Option Value}{base:Heap}{N ps:List Str}{qual:Str}{scope:Scope}{f:Addr}{cd:Value}{A:Around}{outer:List Env}{s s1:Shared}{H:Hp}{E:XK}{us:List Value}{vs:List V}
  (S:FnScope N ps scope) (hd:A.handled=none) (e0:Env0 P w K mg base A outer s H) (hl:vs.length=ps.length) (r:Vals vs us)
  (x:InCallC s s.heap.objs.size (bindL (envOfC qual scope s.heap.objs.size f cd).kindOf (ps.zip us) fun _=>none) (cellsFrom (s.heap.objs.size+1) scope.names []) (bindC (envOfC qual scope s.heap.objs.size f cd).kindOf (ps.zip us) fun _=>none) s1) :
  Inv (cxOf CX P w K mg base N qual scope f cd A outer s H E) [] (Zw3 N vs) H s1:=by
 have hpl:ps.length≤N.length:=by have:=congrArg List.length S.pre;rw[List.length_take]at this;omega
 obtain⟨h1,tk,rfl,hk⟩:=x.done
 have noA:∀b:Addr,b∉(cxOf CX P w K mg base N qual scope f cd A outer s H E).ex:=fun b z=>absurd (show b∈([]:List Addr) from z) (by simp)
 refine⟨⟨e0.mod,S.kind,rfl,rfl,Nat.le_refl _,fun y z c h1 h2=>?_,fun y hy=>?_,fun y c _ h=>?_,fun _=>hd,Around.frames_deeper e0.frames,.inr ⟨rfl,rfl⟩,fun b z=>absurd z (noA b),e0.bs,e0.bsz,fun b _ _=>noA b,fun b z=>absurd z (noA b),e0.funs,e0.frf⟩,
  rfl,e0.bare,Un.kept hk,⟨_,x.toInCall.ns,fun i y v h1 h2 h3=>?_⟩,fun y c h=>⟨_,x.cell y c h⟩,e0.hok.fresh (Nat.le_refl _),fun y c h=>?_,fun p hp=>absurd (show p∈([]:List (Addr×Obj)) from hp) (by simp),e0.hok.kept hk,?_⟩
 ·exact name_of_addr x.apart (PySem.mem_of_lookup h1) (PySem.mem_of_lookup h2)
 ·have hy:scope.names.lookup y=some .cell∨scope.names.lookup y=some .free:=hy
  rcases hy with hy|hy
  ·exact Xv9 hy
  ·exact absurd rfl (S.nofree _ (PySem.mem_of_lookup hy))
 ·exact Nat.le_of_lt (x.above y c (PySem.mem_of_lookup h))
 ·have hi:i<vs.length:=by
   unfold Zw3 at h2
   by_cases hi:i<vs.length
   ·exact hi
   ·rw[List.getElem?_append_right (by simpa using hi)]at h2
    rw[List.getElem?_replicate]at h2
    split at h2<;>cases h2
  have ha:vs[i]?=some v:=by
   unfold Zw3 at h2
   rw[List.getElem?_append_left (by simpa using hi),List.getElem?_map]at h2
   cases e:vs[i]? with
   | none=>rw[e]at h2;cases h2
   | some a=>rw[e]at h2;cases h2;rfl
  obtain⟨u,hu,rv⟩:=r.get ha
  have hp:ps[i]?=some y:=by
   rw[←S.pre,List.getElem?_take_of_lt (by omega)];exact h1
  have ndP:ps.Nodup:=by rw[←S.pre];exact S.nd.sublist (List.take_sublist _ _)
  refine⟨u,rv,?_⟩
  rcases S.par y (List.mem_of_getElem? hp) with k|k
  ·exact .inl ⟨k,Xz0 ndP hp hu k⟩
  ·obtain⟨c,e⟩:=Xv9 (n:=s.heap.objs.size+1) k
   refine .inr ⟨.inl k,c,e,?_⟩
   have q:=x.cell y c e
   rw[Xz1 ndP hp hu (by show scope.names.lookup y≠_;rw[k];decide)]at q
   exact q
 ·exact e0.hok.fresh (Nat.le_of_lt (x.above y c (PySem.mem_of_lookup h)))
 ·unfold Zw3
  show _=N.length
  rw[List.length_append,List.length_map,List.length_replicate]
  omega
theorem Yp9 {CX:CXT}{P:Program}{w:World}{K:PySem.W.Frag}{mg:Str→Option Value}{base:Heap}{k:Nat}{f:Addr}{name qual:Str}{params:Arguments}{body:List Stmt}{scope:Scope}{dV kV doc pm cdv ct oc:Value}{an od:Option Addr}
  {osl:Array (Option Value)}{N ps:List Str}{sp:Sp} (lk:K.lookup f=some ⟨oc,od,.func (PySem.W.fnOf name qual params body scope dV kV doc pm an cdv ct),osl⟩) (hcd:PySem.W.codeIn K cdv qual=true) (S:FnScope N ps scope)
  (len:∀vs H Q E,sp vs H Q E→vs.length=ps.length)
  (hbody:∀(A:Around) (outer:List Env) (s:Shared) (H:Hp) (vs:List V) (Q:VK) (E:XK),Room k (A.deeper (envOfC qual scope s.heap.objs.size f cdv))→sp vs H Q E →
   ∃t,PSs (cxOf CX P w K mg base N qual scope f cdv A outer s H E) body t∧t { nx:=fun _ H'=>Q .non H',rt:=Q } (Zw3 N vs) H) :
  FnOk P w K mg base CX (k+1) f (PySem.W.fnOf name qual params body scope dV kV doc pm an cdv ct) ps sp:=by
 refine⟨len,fun A outer s H args us vs Q E hr e0 hb r hsp=>?_⟩
 have hl:=len _ _ _ _ hsp
 have KX:K.In s.heap:=e0.mod.kin.keeps fun b o e=>(e0.bs b o e).1
 have lim:s.heap.NoLimit:=e0.mod.nolimit.keeps fun b o e=>(e0.bs b o e).1
 have hkind:∀y∈ps.zip us,scope.names.lookup y.1=some .local∨(scope.names.lookup y.1=some .cell∧((cellsFrom (s.heap.objs.size+1) scope.names []).lookup y.1).isSome=true):=fun ⟨n,v⟩ hy=>by
  rcases S.par n (List.of_mem_zip hy).1 with q|q
  ·exact .inl q
  ·exact .inr ⟨q,PySem.W.cellsFrom_some _ _ _ (.inl q)⟩
 refine codeAny_call_function hr.depth (KX _ _ lk) rfl S.co S.gen rfl (PySem.W.codeRec_of KX hcd) (hb _ _ _ _ ?_)
 refine wpAny_newFunctionEnv_cells S.kind hkind fun env he s1 x=>?_
 subst he
 refine⟨lim.keeps x.toInCall.keep,codeAny_func ?_⟩
 obtain⟨t,ht,hq⟩:=hbody A outer s H vs Q E (hr.deeper _) hsp
 have I:Inv (cxOf CX P w K mg base N qual scope f cdv A outer s H E) [] (Zw3 N vs) H s1:=Xr0 S hr.hd e0 hl r x
 refine wpAny_mono (ht [] s1 (Zw3 N vs) H _ I hq) (fun fl s' hs=>?_) fun e s' hs=>hs
 have fin:∀{σ':St}{H':Hp}{v:V}{u:Value},Inv (cxOf CX P w K mg base N qual scope f cdv A outer s H E) [] σ' H' s'→RelV v u→Q v H'→CE outer P w H s Q u s' :=
  fun {σ' H' v u} J rv q=>⟨v,H',J.os,J.bare,J.base,J.hok,rv,q⟩
 cases fl with
 | ret u =>
  obtain⟨v,σ',H',J,rv,q⟩:=hs
  exact fin J rv q
 | next =>
  obtain⟨σ',H',J,q⟩:=hs
  exact fin (v:=V.non) (u:=Value.none) J rfl q
 | brk =>
  obtain⟨_,_,_,q⟩:=hs
  exact False.elim q
 | cont =>
  obtain⟨_,_,_,q⟩:=hs
  exact False.elim q
end L2
namespace L2
open PySem PySem.Spec PyProof.Rows
section
variable {X:Cx}{x:Str}{p pos:Pos}{e:Expr}{es:List Expr}{t:TA}{id T:String}{r:List V→Hp→VK→Prop}
def tCB (r:List V→Hp→VK→Prop) (t:TA):TE:=fun σ H Q=>t σ H fun vs H1=>r vs H1 Q
theorem Qx0 (hc:Qs0 X (.builtin id) r) (hg:Gl X x) (hm:X.mg x=none) (hv:bootBuiltins x=some (.builtin id)) (ha:PA X (e::es) t) (hn:x ≠ "__name__" := by decide) (hdb:(x==("__debug__" : Str))=false:=by decide)
  (he:starEach (e::es) X.env=(false,eval e X.env)::starEach es X.env:=by rfl) (hpl:(backTo pos (starEach es X.env)).any (·.1)=false:=by rfl):PE X (.Call (.Name x p) (e::es) [] pos) (tCB r t):=by
 intro pins s σ H Q I h
 refine wpAny_Call_Name_kw (Qt4 I hg hm hv ?_ hn hdb)
 exact PyProof.Rows.callWith_builtin1 (thn (ha pos pins s σ H _ I h) fun us s1 ⟨vs,H1,I1,r1,q1⟩=>hc pins s1 σ H1 vs us Q I1 r1 q1) he hpl
theorem Qv0 (hc:Qs0 X (.type T) r) (hg:Gl X x) (hm:X.mg x=none) (hv:bootBuiltins x=some (.type T)) (ha:PA X (e::es) t) (hn:x ≠ "__name__" := by decide) (hdb:(x==("__debug__" : Str))=false:=by decide)
  (he:starEach (e::es) X.env=(false,eval e X.env)::starEach es X.env:=by rfl) (hpl:(backTo pos (starEach es X.env)).any (·.1)=false:=by rfl):PE X (.Call (.Name x p) (e::es) [] pos) (tCB r t):=by
 intro pins s σ H Q I h
 refine wpAny_Call_Name_kw (Qt4 I hg hm hv ?_ hn hdb)
 exact PyProof.Rows.callWith_type1 (thn (ha pos pins s σ H _ I h) fun us s1 ⟨vs,H1,I1,r1,q1⟩=>hc pins s1 σ H1 vs us Q I1 r1 q1) he hpl
end
end L2
namespace HT
open PySem PyProof.Rows
def lexLt:List Int→List Int→Bool
 | [],[]=>false
 | [],_::_=>true
 | _::_,[]=>false
 | x::xs,y::ys=>if x=y then lexLt xs ys else decide (x<y)
theorem lexLt_cons (x y:Int) (xs ys:List Int):lexLt (x::xs) (y::ys)=if x=y then lexLt xs ys else decide (x<y):=rfl
theorem lexLt_nil_nil:lexLt [] []=false:=rfl
theorem lexLt_cons_nil (x:Int) (xs:List Int):lexLt (x::xs) []=false:=rfl
section
open PySem.SeqAt
open PySem.AutoSeq1 (wpAny_loadPart')
open PySem.MeetsSeq PySem.MeetsSeq2 PySem.MeetsSeq3
end
section
variable {prog:Program}{w:World}{A:Around}{E:Value→Shared→Prop}{s:Shared}
def sIx (n d:Nat):Option Int→Nat
 | none=>d
 | some v=>if v<0 then (v+(n:Int)).toNat else min v.toNat n
theorem sIx_none (n d:Nat):sIx n d none=d:=rfl
theorem sIx_nat (n d k:Nat):sIx n d (some (k:Int))=min k n:=by
 show (if (k:Int)<0 then ((k:Int)+(n:Int)).toNat else min (k:Int).toNat n)=min k n
 rw[if_neg (by omega),Int.toNat_natCast]
theorem Yg8 (n d:Nat) (hd:d≤n) (o:Option Int):sIx n d o≤n:=by
 cases o with
 | none=>exact hd
 | some v =>
  show (if v<0 then (v+(n:Int)).toNat else min v.toNat n)≤n
  by_cases hv:v<0
  ·rw[if_pos hv];omega
  ·rw[if_neg hv];exact Nat.min_le_right _ _
theorem Xp6 (v:Int) (n d:Nat):(if v<0 then max (v+(n:Int)) 0 else min v (n:Int))=((sIx n d (some v):Nat):Int):=by
 show (if v<0 then max (v+(n:Int)) 0 else min v (n:Int))=(((if v<0 then (v+(n:Int)).toNat else min v.toNat n):Nat):Int)
 by_cases hv:v<0
 ·simp only[if_pos hv];omega
 ·simp only[if_neg hv];omega
theorem Xu6 (lo hi:Option Int) (n:Nat):Builtin.Slice.sliceAdjust lo hi 1 (n:Int)=(((sIx n 0 lo:Nat):Int),((sIx n n hi:Nat):Int)):=by
 have h1:¬((1:Int)<0):=by omega
 unfold Builtin.Slice.sliceAdjust
 simp only[h1,if_false]
 refine Prod.ext ?_ ?_
 ·cases lo with
  | none=>rfl
  | some v=>exact Xp6 v n 0
 ·cases hi with
  | none=>rfl
  | some v=>exact Xp6 v n n
theorem Xu7 (i j:Nat):Builtin.Slice.slicePlaces (i:Int) (j:Int) 1=j-i:=by
 unfold Builtin.Slice.slicePlaces
 have h1:(1:Int)>0:=by omega
 simp only[h1,if_true,Int.ediv_one]
 split<;>omega
theorem Zi2 {v:Value}{o:Option Int}{Q:Option Int→Shared→Prop} (p:IsPart v o) (h:Q o s):wpAny (model prog w) A (Builtin.Slice.slicePartIndex v) Q E s:=by
 cases p with
 | none=>exact slicePart_none h
 | int i t=>exact slicePart_int h
theorem Zr1 {sl:Addr}{vl vu:Value}{lo hi:Option Int}{n:Nat}{Q:Int×Int×Nat→Shared→Prop} (hs:s.heap.IsSliceOf sl vl vu .none) (pl:IsPart vl lo) (pu:IsPart vu hi)
  (h:Q (((sIx n 0 lo:Nat):Int),1,sIx n n hi-sIx n 0 lo) s):wpAny (model prog w) A (Builtin.Slice.sliceApplied (.ref sl) (pure (n:Int))) Q E s:=by
 obtain⟨os,hos,hcs,hds⟩:=id hs
 unfold Builtin.Slice.sliceApplied Builtin.Slice.sliceFields
 refine wpAny_bind (wpAny_bind (wpAny_field hos hds (x:=vl) rfl (wpAny_bind (wpAny_field hos hds (x:=vu) rfl (wpAny_bind (wpAny_field hos hds (x:=.none) rfl (wpAny_pure ?_)))))))
 refine wpAny_bind (slicePart_none ?_)
 show wpAny _ _ (if ((1:Int)==0)=true then _ else _) _ _ s
 rw[if_neg (by decide)]
 refine wpAny_bind (Zi2 pl (wpAny_bind (Zi2 pu (wpAny_bind (wpAny_pure ?_)))))
 show wpAny _ _ (match Builtin.Slice.sliceAdjust lo hi 1 (n:Int) with|(lo,hi)=>pure (lo,(1:Int),Builtin.Slice.slicePlaces lo hi 1)) _ _ s
 rw[Xu6 lo hi n]
 show wpAny _ _ (pure (((sIx n 0 lo:Nat):Int),(1:Int),Builtin.Slice.slicePlaces ((sIx n 0 lo:Nat):Int) ((sIx n n hi:Nat):Int) 1)) _ _ s
 rw[Xu7]
 exact wpAny_pure h
theorem Xa7 (xs:Array Value) (i k:Nat):((List.range k).filterMap fun (m:Nat)=>xs[((i:Int)+(m:Int)*1).toNat]?).toArray=((xs.toList.drop i).take k).toArray:=by
 have e:(fun (m:Nat)=>xs[((i:Int)+(m:Int)*1).toNat]?)=fun m=>xs[i+m]?:=by
  funext m
  have:((i:Int)+(m:Int)*1).toNat=i+m:=by omega
  rw[this]
 rw[e]
 have:=pick_run xs i k
 rw[List.filterMap_map]at this
 have e2:((fun x=>xs[x]?)∘fun x=>i+x)=fun m=>xs[i+m]?:=rfl
 rw[e2]at this
 rw[this]
theorem getItem_tuple_cut {t sl:Addr}{items:Array Value}{vl vu:Value}{lo hi:Option Int}{Q:Value→Shared→Prop} (ht:IsTup s.heap t items) (hs:s.heap.IsSliceOf sl vl vu .none) (pl:IsPart vl lo) (pu:IsPart vu hi)
  (hw:¬(sIx items.size 0 lo=0∧sIx items.size items.size hi=items.size))
  (h:Q (.ref s.heap.objs.size) { s with heap:=s.heap.push { cls:=.type "tuple",data:=.seq ((items.toList.drop (sIx items.size 0 lo)).take (sIx items.size items.size hi-sIx items.size 0 lo)).toArray } })
  (hsz:items.size≤sizeLine):wpAny (model prog w) A (getItem (.ref t) (.ref sl)) Q E s:=by
 have htake:sizeOk (.seq ((items.toList.drop (sIx items.size 0 lo)).take (sIx items.size items.size hi-sIx items.size 0 lo)).toArray):=by
  show ((items.toList.drop (sIx items.size 0 lo)).take (sIx items.size items.size hi-sIx items.size 0 lo)).toArray.size≤sizeLine
  rw[List.size_toArray,List.length_take,List.length_drop,Array.length_toList]
  omega
 have hj:sIx items.size items.size hi≤items.size:=Yg8 _ _ (Nat.le_refl _) hi
 obtain⟨os,hos,hcs,hds⟩:=id hs
 have hTs:s.TypeIs (.ref sl) "slice" := ⟨os,hos,hcs⟩
 unfold getItem
 try with_reducible refine wpAny_holding ?_
 first|refine wpAny_bind (wpAny_pure ?_)|skip
 refine wpAny_bind (wpAny_sequenceKey ht.typeIs (by decide) ?_)
 refine wpAny_bind (wpAny_callSpecial?_slot (name:=Str.ofString "__getitem__") ht.typeIs PyProof.Rows.slot_tuple_getitem
  (wpAny_call_entry PyProof.Rows.slot_tuple_getitem ht.typeIs entry_tuple_getitem ?_ (args_tuple_getitem _ _)))
 show wpAny _ _ (Builtin.Tuple.tupleItemsOf (.ref t) >>= _) _ _ s
 refine wpAny_bind (tupleItemsOf_ ht ?_)
 refine wpAny_bind (wpAny_typeOf hTs ?_)
 rw[if_pos (by decide)]
 refine wpAny_bind (Zr1 hs pl pu ?_)
 have hno:¬((((sIx items.size 0 lo:Nat):Int)==0&&(1:Int)==1&&(sIx items.size items.size hi-sIx items.size 0 lo)==items.size)=true):=by
  intro q
  rw[Bool.and_eq_true,Bool.and_eq_true]at q
  have q1:((sIx items.size 0 lo:Nat):Int)=0:=eq_of_beq q.1.1
  have q2:sIx items.size items.size hi-sIx items.size 0 lo=items.size:=eq_of_beq q.2
  exact hw ⟨by omega,by omega⟩
 show wpAny _ _ (if (((sIx items.size 0 lo:Nat):Int)==0&&(1:Int)==1&&(sIx items.size items.size hi-sIx items.size 0 lo)==items.size)=true then _ else _) _ _ s
 rw[if_neg hno,Xa7]
 first
  | exact wpAny_bind (m:=Builtin.Tuple.tupleExact _) (wpAny_newObj_type (wpAny_pure ⟨_,rfl,wpAny_pure h⟩) htake)
  | exact wpAny_bind (m:=Builtin.Tuple.tupleExact _) (wpAny_newObj_type (wpAny_bind (wpAny_pure (wpAny_pure ⟨_,rfl,wpAny_pure h⟩))) htake)
  | exact wpAny_bind (wpAny_bind (m:=Builtin.Tuple.tupleExact _) (wpAny_newObj_type (wpAny_pure (wpAny_pure ⟨_,rfl,wpAny_pure h⟩)) htake))
  | exact wpAny_bind (wpAny_bind (m:=Builtin.Tuple.tupleExact _) (wpAny_newObj_type (wpAny_pure ⟨_,rfl,wpAny_pure h⟩) htake))
end
end HT
namespace L2
open PySem PySem.Spec PyProof.Rows
abbrev TO:=St→Hp→(Option Int→Hp→Prop)→Prop
def PO (X:Cx) (e:Option Expr) (t:TO):Prop :=
 ∀(pins:List (Addr×Obj)) (s:Shared) (σ:St) (H:Hp) (Q:Option Int→Hp→Prop),Inv X pins σ H s→t σ H Q →
  wpAny (model X.prog X.w) X.A (evalPart e X.env) (fun u s'=>∃o H',Inv X pins σ H' s'∧IsPart u o∧Q o H') X.xe s
def Yk0:TO:=fun _ H Q=>Q none H
def Yf0 (t:TE):TO:=fun σ H Q=>t σ H fun x H1=>∃i,x=.int i∧Q (some i) H1
theorem Xu8 {ns:List Int}:∀{us:List Value},Vals (ns.map V.int) us→IntsAre us ns:=by
 induction ns with
 | nil=>intro us r;rw[List.map_nil]at r;cases r;exact .nil
 | cons n ns ih =>
  intro us r
  rw[List.map_cons]at r
  cases r with
  | cons r1 r2 =>
   obtain⟨t,e⟩:=r1
   subst e
   exact .cons n t (ih r2)
section
variable {X:Cx}{e:Expr}{te:TE}{lo hi:Option Expr}{tl th:TO}{pos p2:Pos}
theorem Zj2:PO X none Yk0:=by
 intro pins s σ H Q I h
 rw[evalPart_none]
 exact wpAny_pure ⟨none,H,I,.none,h⟩
theorem Zj3 (h:PE X e te):PO X (some e) (Yf0 te):=by
 intro pins s σ H Q I hw
 rw[evalPart_some]
 refine thn (h pins s σ H _ I hw) fun u s1 ⟨x,H1,I1,r1,q1⟩=>?_
 obtain⟨i,rfl,q⟩:=q1
 obtain⟨t,rfl⟩:=r1
 exact⟨some i,H1,I1,.int i t,q⟩
def SlR (X:Cx) (r:V→Option Int→Option Int→Hp→VK→Prop):Prop :=
 ∀(pins:List (Addr×Obj)) (s:Shared) (σ:St) (H:Hp) (x:V) (v vl vu:Value) (lo hi:Option Int) (sl:Addr) (Q:VK),Inv X pins σ H s→RelV x v→s.heap.IsSliceOf sl vl vu .none→IsPart vl lo→IsPart vu hi→r x lo hi H Q →
  ∃T id,typeLookup (.type T) "__getitem__" = pure (some (.builtin id))∧s.TypeIs v T∧wpAny (model X.prog X.w) X.A (getItem v (.ref sl)) (EP X pins σ Q) X.xe s
def tSl (r:V→Option Int→Option Int→Hp→VK→Prop) (te:TE) (tl th:TO):TE:=fun σ H Q=>te σ H fun x H1=>tl σ H1 fun l H2=>th σ H2 fun u H3=>r x l u H3 Q
theorem Qa9 {r:V→Option Int→Option Int→Hp→VK→Prop} (hr:SlR X r) (he:PE X e te) (hl:PO X lo tl) (hu:PO X hi th):PE X (.Subscript e (.Slice lo hi none p2) pos) (tSl r te tl th):=by
 intro pins s σ H Q I h
 refine Subscript_ (thn (he pins s σ H _ I h) fun v s1 ⟨x,H1,I1,r1,q1⟩=>?_)
 refine wpAny_Slice (thn (hl pins s1 σ H1 _ I1 q1) fun vl s2 ⟨l,H2,I2,pl,q2⟩=>thn (hu pins s2 σ H2 _ I2 q2) fun vu s3 ⟨u,H3,I3,pu,q3⟩=>?_)
 rw[evalPart_none]
 refine wpAny_pure ?_
 have I4:Inv X pins σ H3 { s3 with heap:=s3.heap.push { cls:=.type "slice",data:=.fields #[vl,vu,.none] } }:=I3.kept (t':=s3.toks) fun b ob q=>Heap.get?_push_of_some _ q
 obtain⟨T,id,hT,ht,hg⟩:=hr pins { s3 with heap:=s3.heap.push { cls:=.type "slice",data:=.fields #[vl,vu,.none] } } σ H3 x v vl vu l u s3.heap.objs.size Q I4 r1 (Heap.IsSliceOf.new ..) pl pu q3
 show wpAny (model X.prog X.w) X.A (subscriptTail e (.Slice lo hi none p2) v (.ref s3.heap.objs.size)) (EP X pins σ Q) X.xe { s3 with heap:=s3.heap.push { cls:=.type "slice",data:=.fields #[vl,vu,.none] } }
 exact tail_any (ops:=[.ref s3.heap.objs.size,v]) ht hT hg (by with_unfolding_all rfl)
def cutV (xs:List V) (lo hi:Option Int):List V:=(xs.drop (HT.sIx xs.length 0 lo)).take (HT.sIx xs.length xs.length hi-HT.sIx xs.length 0 lo)
theorem Zc1 (xs:List V) (lo hi:Option Int):(cutV xs lo hi).length≤xs.length:=by
 unfold cutV
 rw[List.length_take,List.length_drop]
 omega
def rSlT (K:PySem.W.Frag):V→Option Int→Option Int→Hp→VK→Prop:=fun x lo hi H Q=>∃a xs,x=.ref a∧SqT K H a xs ∧
 ¬(HT.sIx xs.length 0 lo=0∧HT.sIx xs.length xs.length hi=xs.length)∧∀p,H p=none→Q (.ref p) (upd H p (.tup (cutV xs lo hi)))
theorem Yg9:SlR X (rSlT X.K):=by
 intro pins s σ H x v vl vu lo hi sl Q I rx hs pl pu h
 obtain⟨a,xs,rfl,hx,hw,q⟩:=h
 cases rx
 obtain⟨its,r,ht,hz⟩:=I.tuple hx
 have hlen:its.toArray.size=xs.length:=by rw[List.size_toArray];exact r.length.symm
 refine⟨"tuple",_,PyProof.Rows.slot_tuple_getitem.lookup,ht.typeIs,?_⟩
 refine HT.getItem_tuple_cut ht hs pl pu (by rw[hlen];exact hw) ?_ (by rw[hlen];exact hz)
 rw[hlen]
 refine⟨.ref s.heap.objs.size,_,I.laid (t':=s.toks) (o:=.tup (cutV xs lo hi)) (fun b ob q=>Heap.get?_push_of_some _ q) (Nat.le_refl _) ?_,rfl,q _ (I.hok.fresh (Nat.le_refl _))⟩
 exact⟨Nat.le_trans (Zc1 xs lo hi) hz,_,(r.drop (HT.sIx xs.length 0 lo)).take (HT.sIx xs.length xs.length hi-HT.sIx xs.length 0 lo),IsTup.new _ _⟩
end
end L2
namespace L2
open PySem PySem.Spec PyProof.Rows
def ixN (n:Nat) (i:Int):Option Nat:=if 0≤i then (if i<n then some i.toNat else none) else if -(n:Int)≤i then some (i+n).toNat else none
def atI {α:Type} (xs:List α) (i:Int):Option α:=(ixN xs.length i).bind fun j=>xs[j]?
theorem Xp7 {n:Nat}{i:Int}{j:Nat} (h:ixN n i=some j):seqIndex? i n=some j∧j<n ∧ -(n:Int)≤i∧i<n:=by
 unfold ixN at h
 by_cases h0:0≤i
 ·rw[if_pos h0]at h
  by_cases h1:i<n
  ·rw[if_pos h1]at h
   have e:i.toNat=j:=Option.some.inj h
   exact⟨by rw[seqIndex_of h0 h1,e],by omega,by omega,h1⟩
  ·rw[if_neg h1]at h;cases h
 ·rw[if_neg h0]at h
  by_cases h1 : -(n:Int)≤i
  ·rw[if_pos h1]at h
   have e:(i+n).toNat=j:=Option.some.inj h
   exact⟨by rw[seqIndex_neg (by omega) h1,e],by omega,h1,by omega⟩
  ·rw[if_neg h1]at h;cases h
theorem Xp8 {α:Type}{xs:List α}{i:Int}{v:α} (h:atI xs i=some v):∃j,seqIndex? i xs.length=some j∧xs[j]?=some v∧j<xs.length ∧ -(xs.length:Int)≤i∧i<xs.length:=by
 unfold atI at h
 cases e:ixN xs.length i with
 | none=>rw[e]at h;cases h
 | some j =>
  rw[e]at h
  obtain⟨h1,h2,h3,h4⟩:=Xp7 e
  exact⟨j,h1,h,h2,h3,h4⟩
theorem Qx7 {α:Type}{xs:List α}{j:Nat}{v:α} (h:xs[j]?=some v):atI xs (j:Int)=some v:=by
 have hj:j<xs.length:=(List.getElem?_eq_some_iff.mp h).1
 have e:ixN xs.length (j:Int)=some j:=by
  unfold ixN
  rw[if_pos (by omega),if_pos (by omega)];simp
 unfold atI;rw[e];exact h
def Yk1 (b:Expr):Prop:=∀o i,subscripted b false o i=operate [o,i] (getItem o i)
def IxR (X:Cx) (r:R2):Prop :=
 ∀(value slice:Expr) (pins:List (Addr×Obj)) (s:Shared) (σ:St) (H:Hp) (x y:V) (v u:Value) (Q:VK),Inv X pins σ H s→RelV x v→RelV y u→r x y H Q →
  subscripted slice false v u=operate [v,u] (getItem v u)→wpAny (model X.prog X.w) X.A (subscriptTail value slice v u) (EP X pins σ Q) X.xe s
def MtR (X:Cx) (id:String) (r:V→List V→Hp→VK→Prop):Prop :=
 ∀(pins:List (Addr×Obj)) (s:Shared) (σ:St) (H:Hp) (x:V) (xs:List V) (v:Value) (us:List Value) (Q:VK),Inv X pins σ H s→RelV x v→Vals xs us→r x xs H Q →
  wpAny (model X.prog X.w) X.A (call (.builtin id) (v::us)) (EP X pins σ Q) X.xe s
section
variable {X:Cx}{a b:Expr}{ta tb:TE}{pos:Pos}
theorem Qx1 {r:R2} (hr:IxR X r) (ha:PE X a ta) (hb:PE X b tb) (hs:Yk1 b):PE X (.Subscript a b pos) (tOp r ta tb):=by
 intro pins s σ H Q I h
 exact Subscript_ (binT ha hb I h fun v u s2 x y H2 I2 rx ry q=>hr a b pins s2 σ H2 x y v u Q I2 rx ry q (hs _ _))
def rIxL (K:PySem.W.Frag):R2:=fun x y H Q=>∃p xs i v,x=.ref p∧y=.int i∧SqL K H p xs∧atI xs i=some v∧Q v H
def rIxT (K:PySem.W.Frag):R2:=fun x y H Q=>∃p xs i v,x=.ref p∧y=.int i∧SqT K H p xs∧atI xs i=some v∧Q v H
theorem Ze1:IxR X (rIxL X.K):=by
 intro value slice pins s σ H x y v u Q I rx ry h hs
 obtain⟨p,xs,i,z,rfl,rfl,hq,he,q⟩:=h
 cases rx
 obtain⟨t,rfl⟩:=ry
 obtain⟨its,r,pl,hz⟩:=I.list hq
 obtain⟨j,h1,h2,h3,h4,h5⟩:=Xp8 he
 obtain⟨w,ew,rw'⟩:=r.get h2
 have hl:=r.length
 have hn:=Zf2
 have fin:EP X pins σ Q w s:=⟨z,H,I,rw',q⟩
 by_cases h0:0≤i
 ·have hj:i.toNat=j:=by
   rw[seqIndex_of h0 h5]at h1
   exact Option.some.inj h1
  exact item_listR pl.isList h0 (by omega) (by rw[hj];simpa using ew) fin hs
 ·have hj:(i+(its.toArray.size:Int)).toNat=j:=by
   rw[seqIndex_neg (by omega) h4]at h1
   rw[List.size_toArray,←hl]
   exact Option.some.inj h1
  exact subscriptTail_builtinR (x:=w) pl.isList.typeIs slot_list_getitem.lookup
   (wpAny_getItem_list_neg (Q:=fun r s'=>r=w∧EP X pins σ Q r s') pl.isList (by omega) (by rw[List.size_toArray]<;>omega) (by omega) (by rw[hj];simpa using ew) ⟨rfl,fin⟩) hs
theorem Yh0:IxR X (rIxT X.K):=by
 intro value slice pins s σ H x y v u Q I rx ry h hs
 obtain⟨p,xs,i,z,rfl,rfl,hq,he,q⟩:=h
 cases rx
 obtain⟨t,rfl⟩:=ry
 obtain⟨its,r,pl,hz⟩:=I.tuple hq
 obtain⟨j,h1,h2,h3,h4,h5⟩:=Xp8 he
 obtain⟨w,ew,rw'⟩:=r.get h2
 have hl:=r.length
 have hn:=Zf2
 have fin:EP X pins σ Q w s:=⟨z,H,I,rw',q⟩
 exact subscriptTail_builtinR (x:=w) pl.typeIs slot_tuple_getitem.lookup
  (getItem_tuple (j:=j) (Q:=fun r s'=>r=w∧EP X pins σ Q r s') pl (by omega) (by omega) (by rw[List.size_toArray,←hl];exact h1) (by simpa using ew) ⟨rfl,fin⟩) hs
theorem Xu9 (its:List Value) (n j:Nat) (u:Value):Obj.mapSeq (·.setIfInBounds j u) { cls:=.type "list",data:=.seq its.toArray n }={ cls:=.type "list",data:=.seq (its.set j u).toArray n }:=by
 simp[Obj.mapSeq]
theorem Inv.lst {pins:List (Addr×Obj)}{σ:St}{H:Hp}{s:Shared}{p:Addr}{xs:List V} (I:Inv X pins σ H s) (h:H p=some (.lst xs)) :
  ∃(its:List Value) (n:Nat),Vals xs its∧s.heap.get? p=some { cls:=.type "list",data:=.seq its.toArray n }∧xs.length≤sizeLine:=by
 obtain⟨z,its,n,r,e⟩:=I.hok p _ h
 exact⟨its,n,r,e,z⟩
theorem Inv.lstUpd {pins:List (Addr×Obj)}{σ:St}{H:Hp}{s:Shared}{p:Addr}{xs ys:List V}{its its':List Value}{n n':Nat}{f:Obj→Obj} (I:Inv X pins σ H s) (h:H p=some (.lst xs))
  (ho:s.heap.get? p=some { cls:=.type "list",data:=.seq its.toArray n }) (hf:f { cls:=.type "list",data:=.seq its.toArray n }={ cls:=.type "list",data:=.seq its'.toArray n' }) (r:Vals ys its') (hz:ys.length≤sizeLine) (t:Nat) :
  Inv X pins σ (upd H p (.lst ys)) { s with heap:=s.heap.update p f,toks:=t }:=by
 have e:(s.heap.update p f).get? p=some { cls:=.type "list",data:=.seq its'.toArray n' }:=by
  rw[Heap.get?_update_self f ho (by rw[hf]<;>rfl),hf]
 refine I.write (x:=p) (e:=p) (by rw[h];trivial) (.inl rfl) (fun b u hb q=>(Heap.get?_update_other _ _ (Ne.symm hb)).trans q) ⟨_,e⟩ ?_
 exact⟨hz,its',n',r,e⟩
def Yf1:V→V→V→Hp→(Hp→Prop)→Prop:=fun o i v H Q=>∃p xs k j,o=.ref p∧i=.int k∧H p=some (.lst xs)∧ixN xs.length k=some j∧Q (upd H p (.lst (xs.set j v)))
theorem Qo0:PSet X Yf1:=by
 intro pins s σ H o i v ov iv u Q I ro ri rv h
 obtain⟨p,xs,k,j,rfl,rfl,hp,hj,q⟩:=h
 cases ro
 obtain⟨t,rfl⟩:=ri
 obtain⟨its,n,r,ho,hz⟩:=I.lst hp
 obtain⟨h1,h2,h3,h4⟩:=Xp7 hj
 have hl:=r.length
 have hn:=Zf2
 have I':Inv X pins σ (upd H p (.lst (xs.set j v))) { s with heap:=s.heap.update p (Obj.mapSeq (·.setIfInBounds j u)) } :=
  I.lstUpd hp ho (Xu9 its n j u) (r.set rv j) (by rw[List.length_set];exact hz) s.toks
 by_cases h0:0≤k
 ·have hk:k.toNat=j:=by
   rw[seqIndex_of h0 h4]at h1
   exact Option.some.inj h1
  exact PySem.W.ki_setAt ho h0 (by omega) (by rw[List.size_toArray,←hl];exact h4) (by rw[hk];exact⟨_,I',q⟩)
 ·have hk:(k+(its.toArray.size:Int)).toNat=j:=by
   rw[seqIndex_neg (by omega) h3]at h1
   rw[List.size_toArray,←hl]
   exact Option.some.inj h1
  exact PySem.W.ki_setBack ho (by omega) (by rw[List.size_toArray,←hl];exact h3) (by omega) (by rw[hk];exact⟨_,I',q⟩)
theorem Xw0 (lo hi:Option Int) (n:Nat):(sliceBounds lo hi none n).1=((HT.sIx n 0 lo:Nat):Int)∧(sliceBounds lo hi none n).2.1=((HT.sIx n n hi:Nat):Int)∧(sliceBounds lo hi none n).2.2=1:=by
 refine⟨?_,?_,rfl⟩
 ·cases lo with
  | none=>simp[sliceBounds,HT.sIx]
  | some i =>
   simp only[sliceBounds,HT.sIx,Option.getD_none,show (1:Int)>0 by decide,if_true]
   by_cases h:i<0
   ·simp only[h,if_true]<;>omega
   ·simp only[h,if_false]<;>omega
 ·cases hi with
  | none=>simp[sliceBounds,HT.sIx]
  | some i =>
   simp only[sliceBounds,HT.sIx,Option.getD_none,show (1:Int)>0 by decide,if_true]
   by_cases h:i<0
   ·simp only[h,if_true]<;>omega
   ·simp only[h,if_false]<;>omega
theorem Xj7 (its:List Value) (lo hi:Option Int):slicePick its.toArray lo hi none=((its.drop (HT.sIx its.length 0 lo)).take (HT.sIx its.length its.length hi-HT.sIx its.length 0 lo)).toArray:=by
 obtain⟨h1,h2,h3⟩:=Xw0 lo hi its.toArray.size
 unfold slicePick
 rw[h1,h2,h3]
 simp only[sliceRange_one,pick_run,List.size_toArray]<;>rfl
def rSlL (K:PySem.W.Frag):V→Option Int→Option Int→Hp→VK→Prop:=fun x lo hi H Q=>∃a xs,x=.ref a∧SqL K H a xs∧∀p,H p=none→Q (.ref p) (upd H p (.lst (cutV xs lo hi)))
theorem Yk2:SlR X (rSlL X.K):=by
 intro pins s σ H x v vl vu lo hi sl Q I rx hs pl pu h
 obtain⟨a,xs,rfl,hx,q⟩:=h
 cases rx
 obtain⟨its,r,ht,hz⟩:=I.list hx
 have hlen:=r.length
 refine⟨"list",_,slot_list_getitem.lookup,ht.isList.typeIs,?_⟩
 refine wpAny_getItem_list_slice ht.isList hs pl pu .none (by simp) ?_ (by rw[List.size_toArray]<;>omega)
 rw[Xj7,←hlen]
 refine⟨.ref s.heap.objs.size,_,I.laid (t':=s.toks) (o:=.lst (cutV xs lo hi)) (fun b ob q=>Heap.get?_push_of_some _ q) (Nat.le_refl _) ?_,rfl,q _ (I.hok.fresh (Nat.le_refl _))⟩
 exact⟨Nat.le_trans (Zc1 xs lo hi) hz,_,0,(r.drop (HT.sIx xs.length 0 lo)).take (HT.sIx xs.length xs.length hi-HT.sIx xs.length 0 lo),Heap.get?_push_size _ rfl⟩
def Qs1:V→Bool
 | .non=>true
 | .bl _=>true
 | .int _=>true
 | .str _=>true
 | _=>false
def eqV:V→V→Bool
 | .non,.non=>true
 | .bl a,.bl b=>a==b
 | .bl a,.int b=>(if a then 1 else 0)==b
 | .int a,.bl b=>a==(if b then 1 else 0)
 | .int a,.int b=>a==b
 | .str a,.str b=>a==b
 | _,_=>false
theorem Xw1 {A:Around}{s:Shared}{y x:V}{u v:Value} (ry:RelV y u) (rx:RelV x v) (fy:Qs1 y=true) (fx:Qs1 x=true):SeqAt.EqAt A s u v (eqV y x):=by
 cases y with
 | non =>
  cases ry
  cases x with
  | non=>cases rx;exact SeqAt.EqAt.same _
  | bl b=>cases rx;exact SeqAt.EqAt.none_bool b
  | int b=>obtain⟨t,rfl⟩:=rx;exact SeqAt.EqAt.none_int b t
  | str b=>obtain⟨t,rfl⟩:=rx;exact SeqAt.EqAt.none_str b t
  | _=>exact absurd (show false=true from fx) Bool.false_ne_true
 | bl a =>
  cases ry
  cases x with
  | non=>cases rx;exact SeqAt.EqAt.bool_none a
  | bl b=>cases rx;exact SeqAt.EqAt.bool_bool a b
  | int b=>obtain⟨t,rfl⟩:=rx;exact SeqAt.EqAt.bool_int a b t
  | str b=>obtain⟨t,rfl⟩:=rx;exact SeqAt.EqAt.bool_str a b t
  | _=>exact absurd (show false=true from fx) Bool.false_ne_true
 | int a =>
  obtain⟨t',rfl⟩:=ry
  cases x with
  | non=>cases rx;exact SeqAt.EqAt.int_none a t'
  | bl b=>cases rx;exact SeqAt.EqAt.int_bool a t' b
  | int b=>obtain⟨t,rfl⟩:=rx;exact SeqAt.EqAt.int_int a t' b t
  | str b=>obtain⟨t,rfl⟩:=rx;exact SeqAt.EqAt.int_str a t' b t
  | _=>exact absurd (show false=true from fx) Bool.false_ne_true
 | str a =>
  obtain⟨t',rfl⟩:=ry
  cases x with
  | non=>cases rx;exact SeqAt.EqAt.str_none a t'
  | bl b=>cases rx;exact SeqAt.EqAt.str_bool a t' b
  | int b=>obtain⟨t,rfl⟩:=rx;exact SeqAt.EqAt.str_int a t' b t
  | str b=>obtain⟨t,rfl⟩:=rx;exact SeqAt.EqAt.str_str a t' b t
  | _=>exact absurd (show false=true from fx) Bool.false_ne_true
 | _=>exact absurd (show false=true from fy) Bool.false_ne_true
def eqU (x:V) (u:Value):Bool:=match u with
 | .none=>eqV .non x
 | .bool b=>eqV (.bl b) x
 | .int i _=>eqV (.int i) x
 | .str z _=>eqV (.str z) x
 | _=>false
theorem Xr1 {x y:V}{u:Value} (r:RelV y u) (f:Qs1 y=true):eqU x u=eqV y x:=by
 cases y with
 | non=>cases r;rfl
 | bl b=>cases r;rfl
 | int i=>obtain⟨t,rfl⟩:=r;rfl
 | str z=>obtain⟨t,rfl⟩:=r;rfl
 | _=>exact absurd (show false=true from f) Bool.false_ne_true
theorem Ze2 {x:V}:∀{xs:List V}{us:List Value},Vals xs us→xs.all Qs1=true→us.any (eqU x)=xs.any fun y=>eqV y x
 | _,_,.nil,_=>rfl
 | y::xs,u::us,.cons r t,f=>by
  rw[List.all_cons,Bool.and_eq_true]at f
  rw[List.any_cons,List.any_cons,Xr1 r f.1,Ze2 t f.2]
theorem Zr2 {A:Around}{s:Shared}{x:V}{v:Value} (rx:RelV x v) (fx:Qs1 x=true):∀{xs:List V}{us:List Value},Vals xs us→xs.all Qs1=true→∀u∈us,SeqAt.EqAt A s u v (eqU x u)
 | _,_,.nil,_=>fun u hu=>by cases hu
 | y::xs,u::us,.cons r t,f=>fun u' hu=>by
  rw[List.all_cons,Bool.and_eq_true]at f
  rcases List.mem_cons.mp hu with rfl|hu
  ·rw[Xr1 r f.1];exact Xw1 r rx f.1 fx
  ·exact Zr2 rx fx t f.2 u' hu
def inV (x:V) (xs:List V):Bool:=xs.any fun y=>eqV y x
def rIn (K:PySem.W.Frag) (neg:Bool):R2:=fun x y H Q=>∃p xs,y=.ref p∧(SqL K H p xs∨SqT K H p xs)∧Qs1 x=true∧xs.all Qs1=true∧Q (.bl (if neg then !inV x xs else inV x xs)) H
theorem Zk4:OpR X (compareOp .NotIn) (rIn X.K true):=by
 intro pins s σ H x y v u Q I rx ry h
 obtain⟨p,xs,rfl,hq,fx,fs,q⟩:=h
 cases ry
 rcases hq with hq|hq
 ·obtain⟨its,r,pl,hz⟩:=I.list hq
  refine SeqAt.notIn_listAt (eqU x) pl.isList (fun w hw=>Zr2 rx fx r fs w (by simpa using hw)) ⟨.bl _,H,I,rfl,?_⟩
  rw[show its.toArray.any (eqU x)=its.any (eqU x) by simp,Ze2 r fs]
  exact q
 ·obtain⟨its,r,pl,hz⟩:=I.tuple hq
  refine SeqAt.notIn_tupleAt (eqU x) pl (fun w hw=>Zr2 rx fx r fs w (by simpa using hw)) ⟨.bl _,H,I,rfl,?_⟩
  rw[show its.toArray.any (eqU x)=its.any (eqU x) by simp,Ze2 r fs]
  exact q
theorem Zk5:Qs0 X (.builtin "len") (fun xs H Q=>∃p ys,xs=[.ref p]∧(SqL X.K H p ys∨SqT X.K H p ys)∧Q (.int ys.length) H):=by
 intro pins s σ H xs us Q I r h
 obtain⟨p,ys,rfl,hq,q⟩:=h
 obtain⟨u,rfl,rx⟩:=Zd9 r
 cases rx
 have hn:=Zf2
 rcases hq with hq|hq
 ·obtain⟨its,r',pl,hz⟩:=I.list hq
  have hlen:=r'.length
  exact Calls.call_len_list pl.isList (by simp only[List.size_toArray]<;>omega) ⟨.int ys.length,H,I.tok _,⟨s.toks+1,by rw[List.size_toArray,hlen]⟩,q⟩
 ·obtain⟨its,r',pl,hz⟩:=I.tuple hq
  have hlen:=r'.length
  exact len_tuple pl (by simp only[List.size_toArray]<;>omega) ⟨.int ys.length,H,I.tok _,⟨s.toks+1,by rw[List.size_toArray,hlen]⟩,q⟩
theorem Xw2:Qs0 X (.type "list") (fun xs H Q=>∃p ys,xs=[.ref p]∧(SqL X.K H p ys∨SqT X.K H p ys)∧∀l,H l=none→Q (.ref l) (upd H l (.lst ys))):=by
 intro pins s σ H xs us Q I r h
 obtain⟨p,ys,rfl,hq,q⟩:=h
 obtain⟨u,rfl,rx⟩:=Zd9 r
 cases rx
 have fin:∀(its:List Value),Vals ys its→ys.length≤sizeLine→∀(h':Heap) (c':Nat),(∀b o',s.heap.get? b=some o'→h'.get? b=some o') →
   h'.get? s.heap.objs.size=some { cls:=.type "list",dict:=none,data:=.seq its.toArray c',slots:=#[] }→EP X pins σ Q (.ref s.heap.objs.size) { s with heap:=h' }:=fun its r' hz h' c' kp e =>
  ⟨.ref s.heap.objs.size,_,I.laid (t':=s.toks) kp (Nat.le_refl _) (show Qv5 X.prog X.w _ h' _ (.lst ys) from ⟨hz,its,c',r',e⟩),rfl,q _ (I.hok.fresh (Nat.le_refl _))⟩
 rcases hq with hq|hq
 ·obtain⟨its,r',pl,hz⟩:=I.list hq
  have hlen:=r'.length
  obtain⟨o,ho,hc,n,hd⟩:=pl.isList
  exact call_list_seq p (.inl rfl) ho hc hd (fun h' c' kp e=>fin its r' hz h' c' kp e) (by simp only[List.size_toArray]<;>omega)
 ·obtain⟨its,r',pl,hz⟩:=I.tuple hq
  have hlen:=r'.length
  obtain⟨o,ho,hc,n,hd⟩:=pl
  exact call_list_seq p (.inr rfl) ho hc hd (fun h' c' kp e=>fin its r' hz h' c' kp e) (by simp only[List.size_toArray]<;>omega)
theorem Qn9:Qs0 X (.type "tuple") (fun xs H Q=>∃p ys,xs=[.ref p]∧((SqL X.K H p ys∧∀l,H l=none→Q (.ref l) (upd H l (.tup ys)))∨(SqT X.K H p ys∧Q (.ref p) H))):=by
 intro pins s σ H xs us Q I r h
 obtain⟨p,ys,rfl,h⟩:=h
 obtain⟨u,rfl,rx⟩:=Zd9 r
 cases rx
 rcases h with ⟨hq,q⟩|⟨hq,q⟩
 ·obtain⟨its,r',pl,hz⟩:=I.list hq
  have hlen:=r'.length
  refine call_tuple_list pl.isList (fun h' kp=>?_) (by simp only[List.size_toArray]<;>omega)
  have I1:Inv X pins σ H { s with heap:=h' }:=I.kept (t':=s.toks) kp
  have I2:Inv X pins σ (upd H h'.objs.size (.tup ys)) { s with heap:=h'.push { cls:=.type "tuple",data:=.seq its.toArray } } :=
   I1.laid (t':=s.toks) (fun b o e=>Heap.get?_push_of_some _ e) (Nat.le_refl _) (show Qv5 X.prog X.w _ _ _ (.tup ys) from ⟨hz,its,r',IsTup.new _ _⟩)
  exact⟨.ref h'.objs.size,_,I2,rfl,q _ (I1.hok.fresh (Nat.le_refl _))⟩
 ·obtain⟨its,r',pl,hz⟩:=I.tuple hq
  exact call_tuple_same pl ⟨.ref p,H,I,rfl,q⟩
def tyV (K:PySem.W.Frag) (T:String) (x:V) (H:Hp):Prop:=match x with
 | .str _=>T = "str"
 | .int _=>T = "int"
 | .ref p=>(T = "list" ∧ ∃xs,SqL K H p xs)∨(T = "tuple" ∧ ∃o,K.lookup p=some o∧o.cls=.type "tuple" ∧ o.dict=none) ∨
   (T = "dict" ∧ ((∃kvs,H p=some (.dK kvs))∨∃kvs,H p=some (.dT kvs)))∨(T = "set" ∧ ∃S n,H p=some (.set S n))
 | _=>False
theorem Xr2 {pins:List (Addr×Obj)}{σ:St}{H:Hp}{s:Shared}{T:String}{x:V}{v:Value} (I:Inv X pins σ H s) (r:RelV x v) (ty:tyV X.K T x H) :
  s.TypeIs v T∧∀a,v=.ref a→∃ob,s.heap.get? a=some ob∧ob.dict=none:=by
 cases x with
 | str z =>
  obtain⟨t,rfl⟩:=r
  cases (show T = "str" from ty)
  exact⟨typeIs_str s z t,fun _ e=>nomatch e⟩
 | int i =>
  obtain⟨t,rfl⟩:=r
  cases (show T = "int" from ty)
  exact⟨typeIs_int s i t,fun _ e=>nomatch e⟩
 | ref p =>
  cases r
  rcases ty with ⟨rfl,xs,hq⟩|⟨rfl,o,hk,hc,hd⟩|⟨rfl,hk⟩|⟨rfl,S,n,hk⟩
  ·obtain⟨its,_,pl,_⟩:=I.list hq
   refine⟨pl.isList.typeIs,fun a e=>?_⟩
   cases e
   obtain⟨o,n,e,c,hd,_⟩:=pl
   exact⟨o,e,hd⟩
  ·refine⟨⟨o,I.kIn p o hk,hc⟩,fun a e=>?_⟩
   cases e
   exact⟨o,I.kIn _ o hk,hd⟩
  ·have z:∃o,s.heap.get? p=some o∧o.ExactDict:=by
    rcases hk with ⟨kvs,hk⟩|⟨kvs,hk⟩
    ·obtain⟨_,_,_,_,o,_,_,e,ex,_⟩:=I.hok p _ hk
     exact⟨o,e,ex⟩
    ·obtain⟨_,_,_,_,o,_,_,e,ex,_⟩:=I.hok p _ hk
     exact⟨o,e,ex⟩
   obtain⟨o,e,ex⟩:=z
   refine⟨⟨o,e,ex.1⟩,fun a e2=>?_⟩
   cases e2
   exact⟨o,e,ex.2.1⟩
  ·obtain⟨o,_,_,_,e,ex,_⟩:=I.hok p _ hk
   refine⟨⟨o,e,ex.1⟩,fun a e2=>?_⟩
   cases e2
   exact⟨o,e,ex.2.1⟩
 | _=>exact False.elim ty
def tBM0 (K:PySem.W.Frag) (T:String) (r:V→List V→Hp→VK→Prop) (to:TE):TE:=fun σ H Q=>to σ H fun x H1=>tyV K T x H1∧r x [] H1 Q
def tBM (K:PySem.W.Frag) (T:String) (r:V→List V→Hp→VK→Prop) (to:TE) (t:TA):TE:=fun σ H Q=>to σ H fun x H1=>tyV K T x H1∧t σ H1 fun xs H2=>r x xs H2 Q
variable {o e:Expr}{es:List Expr}{to:TE}{t:TA}{name:Str}{apos cpos:Pos}{T id:String}{r:V→List V→Hp→VK→Prop}
theorem Yh1 (pa:PlainAttrs T) (slot:Slot T name id) (hty:typeOf (.builtin id)=pure (.type "method_descriptor")) (hm:MtR X id r) (ho:PE X o to)
  (hbase:attributeBase o name X.env (eval o X.env)=eval o X.env:=by rfl) (hline:(apos.endLine==cpos.line)=true:=by rfl):PE X (.Call (.Attribute o name apos) [] [] cpos) (tBM0 X.K T r to):=by
 intro pins s σ H Q I h
 refine wpAny_Call_method0_late hbase hline (thn (ho pins s σ H _ I h) fun v s1 ⟨x,H1,I1,r1,ty,q1⟩=>?_)
 obtain⟨h1,h2⟩:=Xr2 I1 r1 ty
 exact⟨T,id,pa,slot,hty,h1,h2,Calls.callWith_builtin rfl (PySem.evalArgs_none (hm pins s1 σ H1 x [] v [] Q I1 r1 .nil q1))⟩
theorem Qs7 (pa:PlainAttrs T) (slot:Slot T name id) (hty:typeOf (.builtin id)=pure (.type "method_descriptor")) (hm:MtR X id r) (ho:PE X o to) (ha:PA X (e::es) t)
  (hbase:attributeBase o name X.env (eval o X.env)=eval o X.env:=by rfl)
  (hfew:((backTo cpos (starEach (e::es) X.env)).all (fun x=>!x.1)&&(backToKw cpos (keywordEach [] X.env)).all (fun x=>x.1.isSome)
   && decide ((e::es).length+([]:List Keyword).length+(if ([]:List Keyword).isEmpty then 0 else 1)<30))=true:=by rfl)
  (hline:(apos.endLine==cpos.line)=true:=by rfl) (hs:starEach (e::es) X.env=(false,eval e X.env)::starEach es X.env:=by rfl) (hplain:(backTo cpos (starEach es X.env)).any (·.1)=false:=by rfl) :
  PE X (.Call (.Attribute o name apos) (e::es) [] cpos) (tBM X.K T r to t):=by
 intro pins s σ H Q I h
 refine wpAny_Call_method_late hbase hfew hline rfl (thn (ho pins s σ H _ I h) fun v s1 ⟨x,H1,I1,r1,ty,q1⟩=>?_)
 obtain⟨h1,h2⟩:=Xr2 I1 r1 ty
 refine⟨T,id,pa,slot,hty,h1,h2,?_⟩
 have hA:=ha cpos pins s1 σ H1 _ I1 q1
 rw[hs]at hA ⊢
 refine Calls.callWith_builtin (by show (false||(backTo cpos (starEach es X.env)).any (·.1))=false;rw[hplain]<;>rfl) (Calls.evalArgs_plain ?_)
 exact thn hA fun us s2 ⟨vs,H2,I2,r2,q2⟩=>hm pins s2 σ H2 x vs v us Q I2 r1 r2 q2
end
end L2
namespace L2
open PySem PySem.Spec PyProof.Rows
def MtM (X:Cx) (id:String) (r:V→List V→Hp→VK→Prop):Prop :=
 ∀(pins:List (Addr×Obj)) (s:Shared) (σ:St) (H:Hp) (x:V) (xs:List V) (v:Value) (us:List Value) (Q:VK),Inv X pins σ H s→RelV x v→Vals xs us→r x xs H Q →
  wpAny (model X.prog X.w) X.A (call (.builtin id) (v::us)) (EP X pins σ Q) X.xe s
theorem Vals.one:∀{x:V}{us:List Value},Vals [x] us→∃u,us=[u]∧RelV x u
 | _,_,.cons r .nil=>⟨_,rfl,r⟩
theorem Vals.two {x y:V}{us:List Value} (h:Vals [x,y] us):∃u v,us=[u,v]∧RelV x u∧RelV y v:=by
 cases h with
 | cons r t =>
  obtain⟨v,rfl,q⟩:=Vals.one t
  exact⟨_,_,rfl,r,q⟩
theorem Vals.zero:∀{us:List Value},Vals [] us→us=[]
 | _,.nil=>rfl
theorem Vals.dropLast {xs:List V}{us:List Value} (h:Vals xs us):Vals xs.dropLast us.dropLast:=by
 induction h with
 | nil=>exact .nil
 | cons r t ih =>
  cases t with
  | nil=>exact .nil
  | cons q t'=>exact .cons r ih
theorem Vals.eraseIdx:∀{xs:List V}{us:List Value} (i:Nat),Vals xs us→Vals (xs.eraseIdx i) (us.eraseIdx i)
 | _,_,_,.nil=>.nil
 | _,_,0,.cons _ t=>t
 | _,_,i+1,.cons r t=>.cons r (Vals.eraseIdx i t)
theorem Vals.rep {xs:List V}{us:List Value} (h:Vals xs us):∀k:Nat,Vals (List.replicate k xs).flatten (List.replicate k us).flatten
 | 0=>.nil
 | k+1=>by
  rw[List.replicate_succ,List.replicate_succ,List.flatten_cons,List.flatten_cons]
  exact Vals.append h (Vals.rep h k)
theorem Xd0 {α:Type} (l:List α):l.eraseIdx (l.length-1)=l.dropLast:=by
 induction l with
 | nil=>rfl
 | cons a r ih =>
  cases r with
  | nil=>rfl
  | cons b r =>
   have e:(a::b::r).length-1=((b::r).length-1)+1:=by
    have h1:(a::b::r).length=r.length+2:=rfl
    have h2:(b::r).length=r.length+1:=rfl
    omega
   rw[e,List.eraseIdx_cons_succ,ih]
   all_goals rfl
theorem Xz2 {α:Type}:∀(l:List α) (i:Nat),(l.eraseIdx i).length≤l.length
 | [],_=>Nat.le_refl _
 | _::_,0=>Nat.le_succ _
 | _::r,i+1=>Nat.succ_le_succ (Xz2 r i)
theorem Xz3 (its:List Value):∀(k:Nat) (acc:List Value),
  List.foldl (fun x1 x2=>x1++x2) acc.toArray (List.replicate k its.toArray)=(acc++(List.replicate k its).flatten).toArray
 | 0,acc=>by simp
 | k+1,acc=>by
  have e:acc.toArray++its.toArray=(acc++its).toArray:=by simp
  have e2:(acc++its)++(List.replicate k its).flatten=acc++(List.replicate (k+1) its).flatten:=by
   rw[List.replicate_succ,List.flatten_cons,List.append_assoc]
  rw[←e2,←Xz3 its k (acc++its),←e,List.replicate_succ,List.foldl_cons]
section
variable {X:Cx}{pins:List (Addr×Obj)}{σ:St}{H:Hp}{s:Shared}{l b:Addr}{xs ys zs:List V}
theorem Inv.lset {its its':List Value}{n:Nat}{f:Array Value→Array Value}{t':Nat} (I:Inv X pins σ H s) (hH:H l=some (.lst xs))
  (e:s.heap.get? l=some { cls:=.type "list",data:=.seq its.toArray n }) (hf:f its.toArray=its'.toArray) (hv:Vals ys its') (hz:ys.length≤sizeLine) :
  Inv X pins σ (upd H l (.lst ys)) { s with heap:=s.heap.update l (Obj.mapSeq f),toks:=t' }:=by
 have q:=PySem.IsL.update e f
 rw[hf]at q
 refine I.write (x:=l) (e:=l) (by rw[hH];exact trivial) (.inl rfl) (fun b' u hb hu=>(Heap.get?_update_other s.heap (Obj.mapSeq f) (Ne.symm hb)).trans hu) ⟨_,q⟩ ?_
 exact⟨hz,its',_,hv,q⟩
theorem Inv.lnew {its:List Value}{t':Nat} (I:Inv X pins σ H s) (hv:Vals ys its) (hz:ys.length≤sizeLine) :
  Inv X pins σ (upd H s.heap.objs.size (.lst ys)) { s with heap:=s.heap.push { cls:=.type "list",data:=.seq its.toArray },toks:=t' } :=
 I.laid (fun _ _ q=>Heap.get?_push_of_some _ q) (Nat.le_refl _) ⟨hz,its,0,hv,Heap.get?_push_size _ rfl⟩
theorem Inv.fresh (I:Inv X pins σ H s):H s.heap.objs.size=none:=I.hok.fresh (Nat.le_refl _)
theorem Inv.lstM (I:Inv X pins σ H s) (hH:H l=some (.lst xs)):xs.length≤sizeLine∧∃(its:List Value) (n:Nat),Vals xs its∧xs.length=its.length∧s.heap.get? l=some { cls:=.type "list",data:=.seq its.toArray n }:=by
 obtain⟨z,its,n,r,e⟩:=I.hok l _ hH
 exact⟨z,its,n,r,r.length,e⟩
theorem Xw3 {n:Nat} (h:n≤sizeLine):Builtin.List.listTooLong n=false:=by
 unfold Builtin.List.listTooLong
 exact decide_eq_false (by omega)
end
section
variable {X:Cx}
def Yk3:V→List V→Hp→VK→Prop:=fun x vs H Q=>∃l xs y,x=.ref l∧vs=[y]∧H l=some (.lst xs)∧xs.length<sizeLine∧Q .non (upd H l (.lst (xs++[y])))
theorem Qd3:MtM X "list.append" Yk3:=by
 intro pins s σ H x vs v us Q I rx rv h
 obtain⟨l,xs,y,rfl,rfl,hH,hz,q⟩:=h
 cases rx
 obtain⟨u,rfl,ru⟩:=rv.one
 obtain⟨z,its,n,r,hl,e⟩:=I.lstM hH
 refine call_meets F.slot_list_append ⟨_,e,rfl⟩ F.entry_list_append (F.args_list_append_2 _ _) (PySem.list_append l its.toArray n u (by rw[List.size_toArray];omega)) ⟨e,?_⟩
 refine⟨.non,_,I.lset (its':=its++[u]) hH e (by simp) (r.append (.cons ru .nil)) ?_,rfl,q⟩
 rw[List.length_append,List.length_singleton]
 omega
def Yk4:V→List V→Hp→VK→Prop:=fun x vs H Q=>∃l b xs zs,x=.ref l∧vs=[.ref b]∧H l=some (.lst xs)∧H b=some (.lst zs)∧xs.length+zs.length≤sizeLine∧Q .non (upd H l (.lst (xs++zs)))
theorem Zf4:MtM X "list.extend" Yk4:=by
 intro pins s σ H x vs v us Q I rx rv h
 obtain⟨l,b,xs,zs,rfl,rfl,hH,hB,hz,q⟩:=h
 cases rx
 obtain⟨u,rfl,ru⟩:=rv.one
 cases ru
 obtain⟨z,its,n,r,hl,e⟩:=I.lstM hH
 obtain⟨z2,its2,n2,r2,hl2,e2⟩:=I.lstM hB
 have hsz:its.toArray.size+its2.toArray.size≤sizeLine:=by rw[List.size_toArray,List.size_toArray];omega
 have hlong:¬(!its.toArray.isEmpty&&Builtin.List.listTooLong (its.toArray.size+its2.toArray.size))=true:=by
  rw[Xw3 hsz,Bool.and_false]
  exact Bool.false_ne_true
 refine call_meets F.slot_list_extend ⟨_,e,rfl⟩ F.entry_list_extend (F.args_list_extend_2 _ _)
  (AutoSeq1.list_extend_list_list_0 l its.toArray n b its2.toArray n2 hlong (by rw[List.size_toArray];omega) (by omega)) ⟨e,e2,?_⟩
 refine⟨.non,_,I.lset (its':=its++its2) hH e (by simp) (r.append r2) ?_,rfl,q⟩
 rw[List.length_append]
 omega
def rPop:V→List V→Hp→VK→Prop:=fun x vs H Q=>∃l xs y,x=.ref l∧vs=[]∧H l=some (.lst xs)∧xs[xs.length-1]?=some y∧Q y (upd H l (.lst xs.dropLast))
theorem Yh2:MtM X "list.pop" rPop:=by
 intro pins s σ H x vs v us Q I rx rv h
 obtain⟨l,xs,y,rfl,rfl,hH,hy,q⟩:=h
 cases rx
 have hus:=rv.zero
 subst hus
 obtain⟨z,its,n,r,hl,e⟩:=I.lstM hH
 obtain⟨u,hu,ru⟩:=r.get hy
 have hy':its.toArray[its.toArray.size-1]?=some u:=by
  show its.toArray[its.length-1]?=some u
  rw[←Array.getElem?_toList,←hl]
  exact hu
 refine call_meets F.slot_list_pop ⟨_,e,rfl⟩ F.entry_list_pop (F.args_list_pop_1 _) (MeetsSeq.list_pop_last l its.toArray n u hy' (by rw[List.size_toArray];omega)) ⟨e,?_⟩
 refine⟨y,_,I.lset (its':=its.dropLast) hH e ?_ r.dropLast ?_,ru,q⟩
 ·show its.toArray.eraseIdxIfInBounds (its.toArray.size-1)=its.dropLast.toArray
  rw[List.size_toArray,List.eraseIdxIfInBounds_toArray,Xd0]
 ·rw[List.length_dropLast]
  omega
def Yh3:V→List V→Hp→VK→Prop:=fun x vs H Q=>∃l xs i k y,x=.ref l∧vs=[.int i]∧H l=some (.lst xs) ∧ -(2^63)≤i∧i<2^63∧seqIndex? i xs.length=some k∧xs[k]?=some y∧Q y (upd H l (.lst (xs.eraseIdx k)))
theorem Xa8:MtM X "list.pop" Yh3:=by
 intro pins s σ H x vs v us Q I rx rv h
 obtain⟨l,xs,i,k,y,rfl,rfl,hH,h1,h2,hk,hy,q⟩:=h
 cases rx
 obtain⟨u,rfl,ru⟩:=rv.one
 obtain⟨t,rfl⟩:=ru
 obtain⟨z,its,n,r,hl,e⟩:=I.lstM hH
 obtain⟨w,hw,rw'⟩:=r.get hy
 refine call_meets F.slot_list_pop ⟨_,e,rfl⟩ F.entry_list_pop (F.args_list_pop_2 _ _)
  (MeetsSeq.list_pop_at l its.toArray n i t k w (fitsIndex_both h1 h2) (by rw[List.size_toArray,←hl];exact hk) (by rw[←Array.getElem?_toList];exact hw) (by rw[List.size_toArray];omega)) ⟨e,?_⟩
 refine⟨y,_,I.lset (its':=its.eraseIdx k) hH e ?_ (r.eraseIdx k) ?_,rw',q⟩
 ·show its.toArray.eraseIdxIfInBounds k=(its.eraseIdx k).toArray
  rw[List.eraseIdxIfInBounds_toArray]
 ·have:=Xz2 xs k
  omega
def rCat:R2:=fun x y H Q=>∃l b xs zs,x=.ref l∧y=.ref b∧H l=some (.lst xs)∧H b=some (.lst zs)∧xs.length+zs.length≤sizeLine∧∀p,H p=none→Q (.ref p) (upd H p (.lst (xs++zs)))
theorem Zy9:OpR X (binaryOp .Add) rCat:=by
 intro pins s σ H x y v u Q I rx ry h
 obtain⟨l,b,xs,zs,rfl,rfl,hH,hB,hz,q⟩:=h
 cases rx
 cases ry
 obtain⟨z,its,n,r,hl,e⟩:=I.lstM hH
 obtain⟨z2,its2,n2,r2,hl2,e2⟩:=I.lstM hB
 refine PySem.P.add_list e e2 ?_ (by rw[List.size_toArray,List.size_toArray];omega)
 have ea:its.toArray++its2.toArray=(its++its2).toArray:=by simp
 rw[ea]
 exact⟨.ref _,_,I.lnew (t':=s.toks) (r.append r2) (by rw[List.length_append];omega),rfl,q _ I.fresh⟩
def rRep:R2:=fun x y H Q=>∃l k xs,x=.ref l∧y=.int k∧H l=some (.lst xs) ∧ -(2^63)≤k∧k<2^63∧xs.length*k.toNat≤sizeLine ∧
 ∀p,H p=none→Q (.ref p) (upd H p (.lst (List.replicate k.toNat xs).flatten))
theorem Yk5 {α:Type} (xs:List α) (k:Nat):(List.replicate k xs).flatten.length=k*xs.length:=by
 induction k with
 | zero=>simp
 | succ k ih=>rw[List.replicate_succ,List.flatten_cons,List.length_append,ih,Nat.succ_mul,Nat.add_comm]
theorem Yh4:OpR X (binaryOp .Mult) rRep:=by
 intro pins s σ H x y v u Q I rx ry h
 obtain⟨l,k,xs,rfl,rfl,hH,h1,h2,hz,q⟩:=h
 cases rx
 obtain⟨t,rfl⟩:=ry
 obtain⟨z,its,n,r,hl,e⟩:=I.lstM hH
 have hlen:its.toArray.size*k.toNat≤sizeLine:=by rw[List.size_toArray,←hl];exact hz
 have hcap:¬its.toArray.size*k.toNat>(2^63-1)/8:=by
  have:(sizeLine:Nat)≤(2^63-1)/8:=by decide
  omega
 have hfit:¬(!Builtin.List.listFitsIndex k)=true:=by
  rw[fitsIndex_both h1 h2]
  exact Bool.false_ne_true
 have hlong:¬Builtin.List.listTooLong (its.toArray.size*k.toNat)=true:=by
  rw[Xw3 hlen]
  exact Bool.false_ne_true
 have hnew:List.foldl (fun x1 x2=>x1++x2) #[] (List.replicate (if its.toArray.isEmpty=true then 0 else k.toNat) its.toArray)=(List.replicate k.toNat its).flatten.toArray:=by
  have f0:∀m:Nat,List.foldl (fun x1 x2=>x1++x2) #[] (List.replicate m its.toArray)=(List.replicate m its).flatten.toArray:=fun m=>by
   have:=Xz3 its m []
   rw[List.nil_append]at this
   exact this
  rw[f0]
  cases its with
  | nil=>simp
  | cons a r'=>rw[if_neg (by simp)]
 refine wpAny_binaryOp_repeat_ref (T := "list") (U := "int") (by decide) ⟨_,e,rfl⟩ (fun s'=>typeIs_int s' k t) noFill_list_mul F.fills_int_mul F.slot_int_rmul repeat_list F.slot_int_index.lookup
  (call_meets F.slot_int_rmul (typeIs_int s k t) F.entry_int_rmul (F.args_int_rmul_2 _ _) (int___rmul___int_list k t l its.toArray n)
   ⟨e,rfl,⟨_,e,rfl⟩,call_meets F.slot_list_mul ⟨_,e,rfl⟩ F.entry_list_mul (F.args_list_mul_2 _ _) (AutoListH.list___mul___list_int_3 l its.toArray n k t hfit hcap hlong) ⟨e,?_⟩⟩)
 rw[hnew]
 exact⟨.ref _,_,I.lnew (t':=s.toks) (r.rep k.toNat) (by rw[Yk5,Nat.mul_comm];exact hz),rfl,q _ I.fresh⟩
end
section
variable {prog:Program}{w:World}{A:Around}{E:Value→Shared→Prop}{s:Shared}
end
section
variable {X:Cx}
end
end L2
namespace Att
open PySem PySem.W PySem.Calls PyProof.Rows
theorem Zi3 {P:Params}{h:Heap}:∀(ns:List Int) (vs:List Value),WellAll P h vs (ns.map WData.int)→IntsAre vs ns:=by
 intro ns
 induction ns with
 | nil =>
  intro vs w
  rw[List.map_nil]at w
  cases w
  exact .nil
 | cons n ns ih =>
  intro vs w
  rw[List.map_cons]at w
  cases w with
  | cons a b =>
   cases a
   exact .cons _ _ (ih _ b)
theorem Xr3 {l:OpenLaw}{n:Nat} (hn:l.most=some n) {P:Params}{h:Heap}{args:List WData}{vals:List Value}
  (hpre:l.row.toRowW.claim.pre args=true) (hwl:WellAll P h vals args) :
  ∃a vs ns,vals=[Value.ref a]∧args=[WData.list (ns.map WData.int)]∧h.get? a=some { cls:=.type "list",data:=.seq vs.toArray }∧IntsAre vs ns∧ns.length≤n:=by
 have hsh:WShape.hasAll [] args [.list .int]=true:=(pre_splitW hpre).1
 have hc:l.pre.holds [] { args:=args }=true:=(pre_splitW hpre).2
 obtain⟨d,r,rfl,h1,h2⟩:=hasAllW_cons hsh
 obtain rfl:=hasAllW_nil h2
 obtain⟨xs,rfl,h3⟩:=hasW_list h1
 obtain⟨ns,rfl⟩:=items_int h3
 have hlen:ns.length≤n:=by
  unfold OpenLaw.pre at hc
  have h4:(WTm.not (.lt (.lit (.int (n:Int))) (.len (.arg 0)))).holds [] { args:=[.list (ns.map .int)] }=true:=by
   have h4:=(holds_andW hc).1
   rw[hn]at h4
   exact h4
  have h5:=condW_of h4 (w_not (w_lt w_lit (w_len_list (w_arg rfl))))
  rw[List.length_map]at h5
  refine Nat.le_of_not_lt fun q=>?_
  have q':(n:Int)<((ns.length:Nat):Int):=by omega
  first
   | (rw[decide_eq_true q']at h5;exact absurd h5 (by decide))
   | (simp at h5;omega)
 cases hwl with
 | cons w1 w2 =>
  cases w2
  cases w1 with
  | list ho hall=>exact⟨_,_,ns,rfl,rfl,ho,Zi3 ns _ hall,hlen⟩
theorem Xr4 (l:OpenLaw) (args:List WData):l.row.toRowW.claim.post args (.bool true) args=true :=
 postW_of (r:=l.row.toRowW) (X:=(true==true))
  (show WShape.has [] (.bool true) .bool=true by first|rfl|decide|simp[WShape.has,WShape.arms,WShape.armsAll])
  (show (WTm.eq .res (.lit (.bool true))).value [] { args:=args,res:=some (.bool true),after:=args }=some (.bool (true==true)) from w_eq_bool (w_res rfl) w_lit) rfl
theorem attach_call {l:OpenLaw}{n:Nat}{q:Program}{loose:List Str}{XP:(Str→Option Value)→Heap→Prop}{YP:World→Heap→Prop}{d:DefRec}
  (hn:l.most=some n) (hdf:d.params.defaults=[])
  (call:∀(w:World) (s₀ s₁:Shared) (mg mb:Str→Option Value) (fa:Addr) (o:Obj) (pm cd doc:Value) (a:Addr) (vs:List Value) (ns:List Int),
   Ground q loose [] XP w s₀ mg mb s₁.heap→YP w s₁.heap →
   s₁.heap.get? fa=some o→o.data=.func (docDef d.name d.params d.body d.scope pm cd doc)→s₁.heap.CodeRec cd d.name→mg d.name=some (.ref fa) →
   s₁.heap.get? a=some { cls:=.type "list",data:=.seq vs.toArray }→IntsAre vs ns→ns.length≤n→s₁.gens=#[] →
   codeAny (model l.prog w) callerA (.call (.ref fa) ⟨[.ref a],[]⟩) (fun r s'=>r=.ok (.ret (.bool true))∧OldK s₁.heap s'.heap∧s'.os=s₁.os∧AllBare s'.gens) s₁) :
  WalkO q loose XP YP l.row.toRowW d [] (fun f vs=>PySem.call f vs):=by
 intro w s₀ s₁ mg mb G Y fa o pm cd doc dV kV ho hd hcd hD hmg hg args vals as hpre hlay hrd hwl hlo
 obtain rfl:dV=.none:=Dflts.none hD hdf
 obtain rfl:kV=.none:=Dflts.noKw hD
 obtain⟨a,vs,ns,rfl,rfl,hobj,hints,hlen⟩:=Xr3 hn hpre hwl
 refine enter_call (codeAny_mono (call w s₀ s₁ mg mb fa o pm cd doc a vs ns G Y ho (fd_plain hd) hcd hmg hobj hints hlen hg) fun r s' hq=>?_)
 obtain⟨rfl,h2,h3,h4⟩:=hq
 exact⟨.inl ⟨.bool true,.bool true,[],rfl,fun _=>rfl,.bool true,Xr4 l _,fun _=>⟨List.Pairwise.nil,fun _ hm=>(nomatch hm)⟩⟩,h2,h3,h4⟩
section
variable {prog:Program}{w:World}{A:Around}{E:Value→Shared→Prop}{s:Shared}{K:Frag}
end
end Att
namespace L2
open PySem PySem.Spec PyProof.Rows
theorem Xz4:∀{vs:List Value}{ns:List Int},IntsAre vs ns→Vals (ns.map V.int) vs
 | _,_,.nil=>.nil
 | _,_,.cons n t h=>.cons ⟨t,rfl⟩ (Xz4 h)
def Only (H:Hp):Prop:=∀b,H b=none∨∃o xs,H b=some (.frz o (.lst xs))
theorem Xa9 {P:Program}{w:World}{K:PySem.W.Frag}{mg mb:Str→Option Value}{CX:CXT}{k:Nat}{fa a:Addr}{fd:FuncData}{x:Str}{sp:Sp}{s₁:Shared}{vs:List Value}{ns:List Int}
  (KX:K.In s₁.heap) (hns:s₁.heap.Ns mainGlobals mg) (hb:s₁.heap.Ns builtinsNs mb) (hbb:∀x:Str,x ≠ "__name__" → mb x=bootBuiltins x) (hlim:s₁.heap.NoLimit) (hg:s₁.gens=#[])
  (ha:s₁.heap.get? a=some { cls:=.type "list",data:=.seq vs.toArray }) (hi:IntsAre vs ns) (hl:ns.length≤sizeLine) (hr:Room k callerA)
  (F:∀base:Heap,K.In base→base.Ns mainGlobals mg→FnOk P w K mg base CX k fa fd [x] sp) (hbind:∀(s:Shared) (u:Value),BindsTo s fd ⟨[u],[]⟩ [(x,u)])
  (hsp:∀H:Hp,Only H→SqL K H a (ns.map V.int)→sp [.ref a] H (fun v _=>v=.bl true) fun _ _ _=>False)
  (hCX:∀H e s',CX [] H s₁ (fun _ _ _=>False) e s'→False) :
  codeAny (model P w) callerA (.call (.ref fa) ⟨[.ref a],[]⟩) (fun r s'=>r=.ok (.ret (.bool true))∧OldK s₁.heap s'.heap∧s'.os=s₁.os∧AllBare s'.gens) s₁:=by
 have rv:=Xz4 hi
 have lenV:=hi.length
 have core:∀H:Hp,Only H→SqL K H a (ns.map V.int)→HOk P w H s₁.heap→(∀b,H b≠none→b=a)→(H a≠none→K.lookup a=none) →
   codeAny (model P w) callerA (.call (.ref fa) ⟨[.ref a],[]⟩) (fun r s'=>r=.ok (.ret (.bool true))∧OldK s₁.heap s'.heap∧s'.os=s₁.os∧AllBare s'.gens) s₁:=by
  intro H hO hS hok hA hK
  have base_of:∀{b:Addr}{o:Obj},s₁.heap.get? b=some o→H b=none→(hidT s₁.heap H).get? b=some o:=fun e n=>Xa0 e n
  have noA:∀{b:Addr}{o:Obj}{es:Array DictEntry}{ep:Nat},s₁.heap.get? b=some o→o.data=.dict es ep→H b=none:=fun {b o es ep} e d=>by
   cases q:H b with
   | none=>rfl
   | some u =>
    have e':b=a:=hA b (by rw[q];simp)
    subst e'
    rw[ha]at e;cases e
    have d':Data.seq vs.toArray _=Data.dict es ep:=d
    cases d'
  have nsK:∀{b:Addr}{m:Str→Option Value},s₁.heap.Ns b m→(hidT s₁.heap H).Ns b m:=fun {b m} ⟨o,es,ep,e,d,r⟩=>⟨o,es,ep,base_of e (noA e d),d,r⟩
  have hKb:K.In (hidT s₁.heap H):=fun b o e=>base_of (KX b o e) (by
   cases q:H b with
   | none=>rfl
   | some u =>
    have e':b=a:=hA b (by rw[q];simp)
    subst e'
    rw[hK (by rw[q];simp)]at e;cases e)
  have hM:Mod K mg (hidT s₁.heap H):=⟨hKb,nsK hns,⟨mb,nsK hb,hbb⟩,let ⟨mc,h1,h2⟩:=hlim;⟨mc,nsK h1,h2⟩⟩
  have e0:Env0 P w K mg (hidT s₁.heap H) callerA [] s₁ H:=⟨rfl,hM,fun b o e=>Yj1 e,Nat.le_of_eq (Xc2 _ _),trivial,fun b hb=>absurd (show b∈([]:List Addr) from hb) (by simp),hok,.of_eq hg⟩
  refine codeAny_mono ((F _ hKb (nsK hns)).run callerA [] s₁ H ⟨[.ref a],[]⟩ [.ref a] [.ref a] _ _ hr e0 (hbind s₁ (.ref a)) (.cons rfl .nil) (hsp H hO hS)) fun r s' h=>?_
  cases r with
  | error e=>exact(hCX H e s' h).elim
  | ok fl =>
   cases fl with
   | next=>exact False.elim h
   | brk=>exact False.elim h
   | cont=>exact False.elim h
   | ret u =>
    obtain⟨v,H',os,bare,un,hok',r',q⟩:=h
    have q':v=.bl true:=q
    subst q'
    obtain rfl:u=Value.bool true:=r'
    refine⟨rfl,OldK.of_keep fun b o e=>?_,os,bare⟩
    cases q:H b with
    | none=>exact un.keep b o e q (by intro z;exact absurd (show b∈([]:List Addr) from z) (by simp)) (by simp)
    | some u =>
     rcases hO b with z|⟨ob,xs,z⟩
     ·rw[q]at z;cases z
     ·have z2:=un.frzs b ob _ z
      obtain⟨e1,_⟩:=hok b _ z
      obtain⟨e2,_⟩:=hok' b _ z2
      rw[e]at e1;cases e1
      exact e2
 cases hk:K.lookup a with
 | some o =>
  have e:=KX a o hk
  rw[ha]at e
  cases e
  refine core (fun _=>none) (fun _=>.inl rfl) (.inr ⟨_,vs.toArray,_,hk,rfl,rfl,rfl,by rw[List.size_toArray,lenV];exact hl,by simpa using rv⟩) (fun b u z=>by have z':(none:Option HO)=some u:=z;cases z') (fun b z=>absurd rfl z) fun z=>absurd rfl z
 | none =>
  refine core (fun b=>if b=a then some (.frz { cls:=.type "list",data:=.seq vs.toArray } (.lst (ns.map V.int))) else none) (fun b=>?_) (.inl (.inr ⟨{ cls:=.type "list",data:=.seq vs.toArray },if_pos rfl⟩)) (fun b u z=>?_) (fun b z=>?_) fun _=>hk
  ·by_cases hb:b=a
   ·exact .inr ⟨_,_,if_pos hb⟩
   ·exact .inl (if_neg hb)
  ·by_cases hb:b=a
   ·have z':=(if_pos hb).symm.trans z
    cases z'
    subst hb
    exact⟨ha,by rw[List.length_map];exact hl,vs,_,rv,ha⟩
   ·have z':=(if_neg hb).symm.trans z
    cases z'
  ·by_cases hb:b=a
   ·exact hb
   ·exact absurd (if_neg hb) z
end L2
namespace L2
open PySem PySem.Spec PyProof.Rows
theorem walk_of {l:PySem.W.OpenLaw}{n k:Nat}{q:Program}{loose:List Str}{XP:(Str→Option Value)→Heap→Prop}{YP:World→Heap→Prop}{d:DefRec}{K:Params→PySem.W.Frag}{CX:World→CXT}{sp:World→Sp}{x:Str}
  (hn:l.most=some n) (hn2:n≤sizeLine) (hdf:d.params.defaults=[]) (hr:Room k callerA)
  (hY:∀(w:World) (h:Heap),YP w h→(K w.params).In h)
  (F:∀(w:World) (mg:Str→Option Value) (fa:Addr) (h:Heap),(K w.params).In h→h.Ns mainGlobals mg→mg d.name=some (.ref fa) →
   ∃fd:FuncData,(∀(s:Shared) (u:Value),BindsTo s fd ⟨[u],[]⟩ [(x,u)]) ∧
    ∀base:Heap,(K w.params).In base→base.Ns mainGlobals mg→FnOk l.prog w (K w.params) mg base (CX w) k fa fd [x] (sp w))
  (hsp:∀(w:World) (H:Hp) (a:Addr) (ns:List Int),ns.length≤n→Only H→SqL (K w.params) H a (ns.map V.int)→sp w [.ref a] H (fun v _=>v=.bl true) fun _ _ _=>False)
  (hCX:∀(w:World) (H:Hp) (s:Shared) (e:Value) (s':Shared),CX w [] H s (fun _ _ _=>False) e s'→False) :
  PySem.W.WalkO q loose XP YP l.row.toRowW d [] (fun f vs=>PySem.call f vs):=by
 refine Att.attach_call hn hdf fun w s₀ s₁ mg mb fa o pm cd doc a vs ns G Y ho hd hcd hmg hobj hints hlen hg=>?_
 have KX:=hY w _ Y
 obtain⟨fd,hb,hF⟩:=F w mg fa _ KX G.T.g hmg
 exact Xa9 KX G.T.g G.T.b G.T.builtins G.T.nolimit hg hobj hints (Nat.le_trans hlen hn2) hr hF hb (fun H hO hS=>hsp w H a ns hlen hO hS) fun H e s'=>hCX w H s₁ e s'
end L2
namespace L2
open PySem PySem.Spec PyProof.Rows
def Qp4 (s:Stmt) (j:Nat):Stmt:=match s with
 | .ClassDef _ _ _ body _ _ _ _ _ _ _=>body.getD j (.Pass ⟨0,0,0,0⟩)
 | _=>.Pass ⟨0,0,0,0⟩
def Qj0 (s:Stmt):Arguments:=match s with
 | .FunctionDef _ a _ _ _ _ _ _ _ _=>a
 | _=>{ posonlyargs:=[],args:=[],vararg:=none,kwonlyargs:=[],kw_defaults:=[],kwarg:=none,defaults:=[] }
def Qx9 (s:Stmt):List Stmt:=match s with
 | .FunctionDef _ _ b _ _ _ _ _ _ _=>b
 | _=>[]
def Qz0 (s:Stmt):Scope:=match s with
 | .FunctionDef _ _ _ _ _ _ sc _ _ _=>sc
 | _=>{ kind:=.function,names:=[],isGenerator:=false,isCoroutine:=false }
abbrev CX0:CXT:=fun _ _ _ _ _ _=>False
abbrev E0:XK:=fun _ _ _=>False
structure Fun (K:PySem.W.Frag) (x qual:Str) (st:Stmt) (f:Addr) (fd:FuncData):Prop where
 ex:∃(oc:Value) (od:Option Addr) (kV doc pm:Value) (an:Option Addr) (cdv ct:Value) (osl:Array (Option Value)),
  fd=PySem.W.fnOf x qual (Qj0 st) (Qx9 st) (Qz0 st) .none kV doc pm an cdv ct∧K.lookup f=some ⟨oc,od,.func fd,osl⟩∧PySem.W.codeIn K cdv qual=true
 kp:PySem.W.keepIn K (.ref f)=true
section
variable {P:Program}{w:World}{K:PySem.W.Frag}{mg:Str→Option Value}{base:Heap}
theorem Fun.ok {x qual:Str}{st:Stmt}{f:Addr}{fd:FuncData}{N ps:List Str}{k:Nat}{sp:Sp} (F:Fun K x qual st f fd) (S:FnScope N ps (Qz0 st)) (len:∀vs H Q E,sp vs H Q E→vs.length=ps.length)
  (hbody:∀(cdv:Value) (A:Around) (outer:List Env) (s:Shared) (H:Hp) (vs:List V) (Q:VK) (E:XK),Room k (A.deeper (envOfC qual (Qz0 st) s.heap.objs.size f cdv))→sp vs H Q E →
   ∃t,PSs (cxOf CX0 P w K mg base N qual (Qz0 st) f cdv A outer s H E).nox (Qx9 st) t∧t { nx:=fun _ H'=>Q .non H',rt:=Q } (Zw3 N vs) H):FnOk P w K mg base CX0 (k+1) f fd ps sp:=by
 obtain⟨oc,od,kV,doc,pm,an,cdv,ct,osl,rfl,lk,hcd⟩:=F.ex
 refine Yp9 lk hcd S len fun A outer s H vs Q E hr hsp=>?_
 obtain⟨t,h,q⟩:=hbody cdv A outer s H vs Q E hr hsp
 exact⟨t,h.nox,q⟩
theorem Fun.binds {x qual:Str}{st:Stmt}{f:Addr}{fd:FuncData}{ps:List Str} (F:Fun K x qual st f fd)
  (h:∀(kV doc pm:Value) (an:Option Addr) (cdv ct:Value) (us:List Value),us.length=ps.length→bindArgs (PySem.W.fnOf x qual (Qj0 st) (Qx9 st) (Qz0 st) .none kV doc pm an cdv ct) ⟨us,[]⟩=pure (ps.zip us)):Qn8 K fd ps []:=by
 obtain⟨oc,od,kV,doc,pm,an,cdv,ct,osl,rfl,lk,hcd⟩:=F.ex
 exact .all (h kV doc pm an cdv ct)
theorem Qk5 {x qual:Str}{st:Stmt}{f:Addr}{oc:Value}{od an:Option Addr}{osl:Array (Option Value)}{kV doc pm cdv ct:Value} (l:K.lookup f=some ⟨oc,od,.func (PySem.W.fnOf x qual (Qj0 st) (Qx9 st) (Qz0 st) .none kV doc pm an cdv ct),osl⟩)
  (c:PySem.W.codeIn K cdv qual=true) (k:PySem.W.keepIn K (.ref f)=true):Fun K x qual st f (PySem.W.fnOf x qual (Qj0 st) (Qx9 st) (Qz0 st) .none kV doc pm an cdv ct):=⟨⟨oc,od,kV,doc,pm,an,cdv,ct,osl,rfl,l,c⟩,k⟩
end
theorem Qv4 {n:Nat} (h:n≤1000):n<sizeLine:=Nat.lt_of_le_of_lt h (by decide)
section
variable {X:Cx}
theorem pv (i:Nat) {x:Str}{pos:Pos} (hN:X.N[i]?=some x:=by rfl) (hv:Vis X.env.scope x:=by first|exact Or.inl rfl|exact Or.inr (Or.inl rfl)|exact Or.inr (Or.inr rfl)) (hd:(x==("__debug__" : Str))=false:=by decide)
  (hcd:(x==("__classdict__" : Str))=false:=by decide):PE X (.Name x pos) (tVar i):=Yg1 hN hv hd hcd
end
theorem iteF {A B:Prop} (h:B):if false=true then A else B:=by
 rw[if_neg Bool.false_ne_true]
 exact h
theorem iteT {A B:Prop} (h:A):if true=true then A else B:=by
 rw[if_pos rfl]
 exact h
theorem ite2 {c A B:Prop} [Decidable c] (h1:c→A) (h2:¬c→B):if c then A else B:=by
 by_cases h:c
 ·rw[if_pos h]
  exact h1 h
 ·rw[if_neg h]
  exact h2 h
theorem Qs8 {c A B:Prop} [Decidable c] (hc:c) (h:B):if (!decide c)=true then A else B:=by
 rw[decide_eq_true hc]
 exact iteF h
def Same (H H':Hp):Prop:=∀b o,H b=some o→H' b=some o
theorem Same.refl (H:Hp):Same H H:=fun _ _ h=>h
theorem Same.trans {H H1 H2:Hp} (a:Same H H1) (b:Same H1 H2):Same H H2:=fun c o h=>b c o (a c o h)
theorem Same.free {H H':Hp} (e:Same H H') {l:Addr} (h:H' l=Option.none):H l=Option.none:=by
 cases q:H l with
 | none=>rfl
 | some o =>
  rw[e l o q]at h
  cases h
theorem Same.seq {K:PySem.W.Frag}{H H':Hp}{a:Addr}{xs:List V} (e:Same H H') (h:SqL K H a xs):SqL K H' a xs:=by
 rcases h with (h|⟨o,h⟩)|h
 ·exact .inl (.inl (e _ _ h))
 ·exact .inl (.inr ⟨o,e _ _ h⟩)
 ·exact .inr h
end L2
namespace L2
open PySem PySem.Spec PyProof.Rows
def clOf (env:Env):List (Str×NameKind)→List (Str×Addr)→List (Str×Addr)
 | [],cs=>cs
 | (n,k)::r,cs=>clOf env r (if k=.free then (n,(env.cells.lookup n).getD 0)::cs else cs)
theorem Zh6 {env:Env} (f:Str×NameKind→List (Str×Addr)→Sem (ForInStep (List (Str×Addr))))
  (hf:∀n k r,f (n,k) r=if k=.free then (cellOf env n >>= fun a=>pure (.yield ((n,a)::r))) else pure (.yield r)) :
  ∀(l:List (Str×NameKind)) (cs:List (Str×Addr)),(∀y∈l,y.2=.free→∃c,env.cells.lookup y.1=some c)→forIn l cs f=pure (clOf env l cs)
 | [],cs,_=>rfl
 | (n,k)::r,cs,h=>by
  rw[List.forIn_cons,hf]
  by_cases hk:k=.free
  ·obtain⟨c,hc⟩:=h (n,k) List.mem_cons_self hk
   rw[if_pos hk]
   unfold cellOf
   rw[hc]
   show (pure c >>= fun a=>pure (ForInStep.yield ((n,a)::cs))) >>= _=_
   rw[pure_bind,pure_bind]
   show forIn r ((n,c)::cs) f=_
   rw[Zh6 f hf r _ fun y hy=>h y (List.mem_cons_of_mem _ hy)]
   unfold clOf
   rw[if_pos hk,hc]
   cases r<;>rfl
  ·rw[if_neg hk,pure_bind]
   show forIn r cs f=_
   rw[Zh6 f hf r _ fun y hy=>h y (List.mem_cons_of_mem _ hy)]
   conv=>rhs;unfold clOf
   rw[if_neg hk]
theorem Zw4 {scope:Scope}{env:Env} (h:∀y∈scope.names,y.2=.free→∃c,env.cells.lookup y.1=some c):closureFor scope env=pure (clOf env scope.names []):=by
 unfold closureFor
 show (forIn scope.names ([]:List (Str×Addr)) _ >>= fun cs=>pure cs)=_
 rw[Zh6 (env:=env) _ (fun n k r=>?_) scope.names [] h]
 ·rfl
 ·cases k<;>rfl
theorem Qe1 {env:Env}{x:Str}{c:Addr}:∀(l:List (Str×NameKind)) (cs:List (Str×Addr)),(∀y∈l,y.2=.free→∃c,env.cells.lookup y.1=some c) →
  (∀y d,cs.lookup y=some d→env.cells.lookup y=some d)→(clOf env l cs).lookup x=some c→env.cells.lookup x=some c
 | [],cs,_,hc,h=>hc x c h
 | (n,k)::r,cs,hl,hc,h=>by
  unfold clOf at h
  by_cases hk:k=.free
  ·rw[if_pos hk]at h
   obtain⟨d,hd⟩:=hl (n,k) List.mem_cons_self hk
   refine Qe1 r _ (fun y hy=>hl y (List.mem_cons_of_mem _ hy)) (fun y e q=>?_) h
   rw[hd]at q
   by_cases hy:y=n
   ·subst hy
    rw[List.lookup_cons_self]at q
    have q':d=e:=Option.some.inj q
    rw[←q'];exact hd
   ·have hb:(y==n)=false:=beq_eq_false_iff_ne.mpr hy
    rw[List.lookup_cons,hb]at q
    exact hc y e q
  ·rw[if_neg hk]at h
   exact Qe1 r _ (fun y hy=>hl y (List.mem_cons_of_mem _ hy)) hc h
theorem Zr3 {env:Env}{x:Str}:∀(l:List (Str×NameKind)) (cs:List (Str×Addr)),((x,NameKind.free)∈l∨∃c,cs.lookup x=some c)→∃c,(clOf env l cs).lookup x=some c
 | [],cs,h=>h.elim (fun z=>nomatch z) id
 | (n,k)::r,cs,h=>by
  unfold clOf
  refine Zr3 r _ ?_
  rcases h with h|⟨c,h⟩
  ·rcases List.mem_cons.mp h with e|e
   ·cases e
    rw[if_pos rfl]
    exact .inr ⟨_,List.lookup_cons_self ..⟩
   ·exact .inl e
  ·right
   by_cases hk:k=.free
   ·rw[if_pos hk]
    by_cases hx:x=n
    ·subst hx;exact⟨_,List.lookup_cons_self ..⟩
    ·have hb:(x==n)=false:=beq_eq_false_iff_ne.mpr hx
     rw[List.lookup_cons,hb];exact⟨c,h⟩
   ·rw[if_neg hk];exact⟨c,h⟩
theorem Qs9 {env:Env}{x:Str}{k:NameKind}:∀{names:List (Str×NameKind)},
  (names.map fun (n,k)=>if (k==NameKind.free&&env.scope.kind==.function&&env.kindOf n==some .cell) then (n,NameKind.cell) else (n,k)).lookup x=some k →
  ∃k0,names.lookup x=some k0∧(k=k0∨(k=.cell∧k0=.free))
 | [],h=>by simp at h
 | (n,k1)::r,h=>by
  have ih:=@Qs9 env x k r
  by_cases hc:(k1==NameKind.free&&env.scope.kind==.function&&env.kindOf n==some .cell)=true
  ·rw[List.map_cons]at h
   dsimp only at h
   rw[if_pos hc]at h
   cases hx:x==n with
   | true =>
    simp only[List.lookup_cons,hx]at h ⊢
    refine⟨k1,rfl,.inr ⟨(Option.some.inj h).symm,?_⟩⟩
    simp only[Bool.and_eq_true,beq_iff_eq]at hc
    exact hc.1.1
   | false =>
    simp only[List.lookup_cons,hx]at h ⊢
    exact ih h
  ·rw[List.map_cons]at h
   dsimp only at h
   rw[if_neg hc]at h
   cases hx:x==n with
   | true =>
    simp only[List.lookup_cons,hx]at h ⊢
    exact⟨k1,rfl,.inl (Option.some.inj h).symm⟩
   | false =>
    simp only[List.lookup_cons,hx]at h ⊢
    exact ih h
abbrev Cx.seen (X:Cx) (js:List Nat):List Str:=js.map fun j=>X.N.getD j (Str.ofString "")
abbrev Cx.comp (X:Cx) (scope:Scope) (T:List Str) (js:List Nat) (C:Addr) (s₀:Shared) (H₀:Hp) (ex:List Addr) (pn:List (Addr×Obj)):Cx :=
 { X with N:=T++X.seen js,s₀:=s₀,H₀:=H₀,env:=compEnvC scope (clOf X.env scope.names []) C X.env,outer:=X.stack,ex:=ex,fn:=fun _=>false,pn:=pn,xe:=fun _ _=>False }
def Qe2 (js:List Nat) (σ:St):St:=js.map fun j=>σ.getD j none
def Qb9 (n:Nat) (js:List Nat) (σ:St):St:=List.replicate n none++Qe2 js σ
structure CompSc (X:Cx) (scope:Scope) (T:List Str) (js:List Nat):Prop where
 kind:scope.kind=.function
 cell:(scope.names.all fun y=>decide (y.2≠.cell))=true
 loc:(scope.names.all fun y=>decide (y.2=.local→scope.names.lookup y.1=some .local))=true
 fr:(scope.names.all fun y=>decide (y.2=.free→(X.env.kindOf y.1=some .cell∨X.env.kindOf y.1=some .free)))=true
 seen:(js.all fun j=>decide (scope.names.lookup (X.N.getD j (Str.ofString ""))=some .free))=true
section
variable {X:Cx}{pins:List (Addr×Obj)}{σ:St}{H H2 H':Hp}{s s2:Shared}{scope:Scope}{T:List Str}{js:List Nat}
theorem CompSc.has (S:CompSc X scope T js) (I:Inv X pins σ H s):∀y∈scope.names,y.2=.free→∃c,X.env.cells.lookup y.1=some c:=fun y hy hf =>
 I.ok.has y.1 (of_decide_eq_true (List.all_eq_true.mp S.fr y hy) hf)
theorem Xd1 {fp:List Addr}{D:Addr}{o:Obj}{h4:Heap}{t4:Nat} (S:CompSc X scope T js) (I:Inv X pins σ H s) (hc:X.calm=true) (hfp:∀b∈fp,FpOk X pins H b) (hob:∀b∈fp,∃o,s.heap.get? b=some o)
  (hD:s.heap.objs.size≤D) (hDo:h4.get? D=some o) (hod:∀v,o.data≠.cell v) {C:Addr} (hC:s.heap.objs.size≤C) (hDC:D≠C) (hk:∀b u,s.heap.get? b=some u→h4.get? b=some u) {m:Str→Option Value} (hm:h4.Ns C m) :
  Inv (X.comp scope T js C s H fp (X.pn++pins)) [(D,o)] (Qb9 T.length js σ) H { s with heap:=h4,toks:=t4 }:=by
 have hhas:=S.has I
 have look:∀x c,(clOf X.env scope.names []).lookup x=some c→X.env.cells.lookup x=some c:=fun x c e=>Qe1 scope.names [] hhas (fun _ _ z=>by simp at z) e
 have ltc:∀x c,X.env.cells.lookup x=some c→c<s.heap.objs.size:=fun x c e=>by obtain⟨v,q⟩:=I.cell x c e;exact q.lt
 have ltp:∀p∈X.pn++pins,p.1<s.heap.objs.size:=fun p hp=>Heap.lt_size (I.pin p hp).1
 have ltf:∀b∈fp,b<s.heap.objs.size:=fun b hb=>by obtain⟨o,e⟩:=hob b hb;exact Heap.lt_size e
 have stk:∀b∈frs X.stack,b≠X.env.locals→b∈X.fs:=fun b hb ne=>(List.mem_cons.mp (I.stkSub b hb)).elim (fun z=>absurd z ne) id
 have frC:H C=none:=I.hok.fresh hC
 have frD:H D=none:=I.hok.fresh hD
 refine⟨⟨I.ok.mod,S.kind,I.ok.glob,I.ok.blt,hC,fun x y c h1 h2=>I.ok.inj x y c (look x c h1) (look y c h2),fun x hx=>?_,fun x c hf=>(by cases hf),I.ok.hd,I.ok.frames,.inl rfl,fun b hb=>?_,I.bs,Nat.le_trans I.ok.bsz I.sz,fun b ob e hb=>?_,fun b hb hq=>?_,I.stack,I.stkFree⟩,
  rfl,I.bare,Un.kept hk,⟨m,hm,fun i x v h1 h2 h3=>?_⟩,fun x c e=>?_,frC,fun x c e=>I.freeC x c (look x c e),fun p hp=>?_,I.hok.kept hk,?_⟩
 ·obtain⟨k0,e0,hk0⟩:∃k0,scope.names.lookup x=some k0∧k0=.free:=by
   rcases hx with hx|hx
   ·obtain⟨k0,e0,q⟩:=Qs9 hx
    rcases q with q|q
    ·exact absurd q.symm (of_decide_eq_true (List.all_eq_true.mp S.cell _ (PySem.mem_of_lookup e0)))
    ·exact⟨k0,e0,q.2⟩
   ·obtain⟨k0,e0,q⟩:=Qs9 hx
    rcases q with q|q
    ·exact⟨k0,e0,q.symm⟩
    ·exact⟨k0,e0,q.2⟩
  subst hk0
  exact Zr3 scope.names [] (.inl (PySem.mem_of_lookup e0))
 ·refine⟨Nat.ne_of_lt (Nat.lt_of_lt_of_le (ltf b hb) hC),fun x c e=>(hfp b hb).2.2.2.2.1 x c (look x c e)⟩
 ·obtain⟨_,_,_,q,_⟩:=hfp b hb
  rcases q with q|q
  ·exact I.ok.noex b ob e q
  ·exact absurd (Nat.lt_of_lt_of_le (Heap.lt_size e) (Nat.le_trans I.ok.bsz q)) (Nat.lt_irrefl _)
 ·obtain⟨_,q1,q2,_⟩:=hfp b hb
  exact q2 (stk b hq q1)
 ·-- the names that the block sees
  have h1':(T++X.seen js)[i]?=some x:=h1
  have hi:T.length≤i:=by
   refine Nat.le_of_not_lt fun hlt=>?_
   unfold Qb9 at h2
   rw[List.getElem?_append_left (by simpa using hlt),List.getElem?_replicate]at h2
   split at h2<;>cases h2
  rw[List.getElem?_append_right hi]at h1'
  unfold Qb9 at h2
  rw[List.getElem?_append_right (by simpa using hi),List.length_replicate]at h2
  unfold Qe2 at h2
  rw[List.getElem?_map]at h1' h2
  cases ej:js[i-T.length]? with
  | none=>rw[ej]at h1';cases h1'
  | some j =>
   rw[ej]at h1' h2
   have e1:X.N.getD j (Str.ofString "")=x:=Option.some.inj h1'
   have e2:σ.getD j none=some v:=Option.some.inj h2
   have hjf:=of_decide_eq_true (List.all_eq_true.mp S.seen j (List.mem_of_getElem? ej))
   rw[e1]at hjf
   have eσ:σ[j]?=some (some v):=by
    rw[List.getD_eq_getElem?_getD]at e2
    cases q:σ[j]? with
    | none=>rw[q]at e2;cases e2
    | some w=>rw[q]at e2;exact congrArg some e2
   have hjl:j<X.N.length:=by rw[←I.len];exact(List.getElem?_eq_some_iff.mp eσ).1
   have eN:X.N[j]?=some x:=by
    rw[List.getElem?_eq_getElem hjl]
    rw[List.getD_eq_getElem?_getD,List.getElem?_eq_getElem hjl]at e1
    exact congrArg some e1
   have kx:=of_decide_eq_true (List.all_eq_true.mp S.fr _ (PySem.mem_of_lookup hjf)) rfl
   obtain⟨m0,hn0,hl0⟩:=I.loc
   obtain⟨u,ru,lk⟩:=hl0 j x v eN eσ (by rcases kx with q|q;exact .inr (.inl q);exact .inr (.inr q))
   refine⟨u,ru,.inr ⟨?_,?_⟩⟩
   ·obtain⟨k,hkx⟩:∃k,(relabel scope X.env).names.lookup x=some k:=by
     rcases h3 with q|q|q
     ·exact⟨_,q⟩
     ·exact⟨_,q⟩
     ·exact⟨_,q⟩
    obtain⟨k0,e0,q⟩:=Qs9 hkx
    rw[hjf]at e0
    cases e0
    rcases q with q|q
    ·subst q;exact .inr hkx
    ·rw[q.1]at hkx;exact .inl hkx
   ·rcases lk with ⟨kl,_⟩|⟨_,c,ec,zc⟩
    ·rw[kl]at kx
     rcases kx with q|q<;>cases q
    ·obtain⟨c',ec'⟩:=Zr3 (env:=X.env) scope.names [] (.inl (PySem.mem_of_lookup hjf))
     have e3:=look x c' ec'
     rw[ec]at e3
     cases e3
     refine⟨c,ec',?_⟩
     obtain⟨oc,hoc,hd⟩:=zc
     exact⟨oc,hk c oc hoc,hd⟩
 ·obtain⟨v,oc,hoc,hd⟩:=I.cell x c (look x c e)
  exact⟨v,oc,hk c oc hoc,hd⟩
 ·rcases List.mem_append.mp hp with hp|hp
  ·obtain⟨e,n,ne,nf,d⟩:=I.pin p hp
   refine⟨hk p.1 p.2 e,n,Nat.ne_of_lt (Nat.lt_of_lt_of_le (ltp p hp) hC),fun z=>nf (stk p.1 z ne),d⟩
  ·obtain rfl:p=(D,o):=by simpa using hp
   refine⟨hDo,frD,hDC,fun z=>?_,hod⟩
   obtain⟨_,ob,e,_⟩:=I.stack.mem z
   exact absurd (Nat.lt_of_lt_of_le (Heap.lt_size e) hD) (Nat.lt_irrefl _)
 ·show (Qb9 T.length js σ).length=(T++X.seen js).length
  unfold Qb9 Qe2
  simp
end
end L2
namespace L2
open PySem PySem.Spec PyProof.Rows
section
variable {prog:Program}{w:World}{A:Around}{R:Result→Shared→Prop}{s:Shared}
theorem Xw4 {elt target iter:Expr}{ifs:List Expr}{scope:Scope}{pos:Pos}{it acc:Value}{env:Env} (I:Nat→Shared→Prop)
  (turn:∀n s,I n s→wpAny (model prog w) A (pyNext it) (fun r s₁=>match r with
   | none=>R (.ok .next) s₁
   | some v=>wpAny (model prog w) A (letOwnedTupleGo target it v) (fun _ s₁'=>wpAny (model prog w) A (assign target env v) (fun _ s₂ =>
     wpAny (model prog w) A (forIn ifs true fun c r=>if r=true then do let ok ←isTrue c env (eval c env);pure (ForInStep.yield ok) else pure (ForInStep.yield r)) (fun ok s₃ =>
      if ok=true then wpAny (model prog w) A (eval elt env) (fun x s₄ =>
       wpAny (model prog w) A (call (.builtin "list.append") [acc,x]) (fun _ s₅=>∃m,m<n∧I m s₅) (fun _ _=>False) s₄) (fun _ _=>False) s₃
      else ∃m,m<n∧I m s₃) (fun _ _=>False) s₂) (fun _ _=>False) s₁') (fun _ _=>False) s₁) (fun _ _=>False) s)
  (n:Nat) (h:I n s):codeAny (model prog w) A (.compLoop (.ListComp elt [⟨target,iter,ifs,0⟩] scope pos) 0 it acc env) R s:=by
 refine codeAny_loop rfl I (fun n s hI=>?_) n h
 show wpAny _ A ((compTurn (.ListComp elt [⟨target,iter,ifs,0⟩] scope pos) 0 it acc env).onRaise (fun x=>do noteFrame x env;theTreesLotGoes x)) _ _ s
 refine wpAny_noted (wpAny_noRaise ?_)
 rw[compTurn_list]
 refine wpAny_bind (wpAny_standAt (wpAny_bind (thn (turn n s hI) fun r s₁ h₁=>?_)))
 cases r with
 | none=>exact wpAny_pure h₁
 | some v =>
  refine wpAny_bind (thn h₁ fun _ s₁' h₁'=>?_)
  refine wpAny_bind (thn h₁' fun _ s₂ h₂=>wpAny_bind (thn h₂ fun ok s₃ h₃=>?_))
  cases ok with
  | false=>exact wpAny_pure ⟨rfl,h₃⟩
  | true=>exact wpAny_bind (wpAny_bind (thn h₃ fun x s₄ h₄=>wpAny_bind (thn h₄ fun _ s₅ h₅=>wpAny_pure (wpAny_pure ⟨rfl,h₅⟩))))
end
abbrev TB:=(V→Hp→Prop)→(Hp→Prop)→St→Hp→Prop
def PCB (X:Cx) (ifs:List Expr) (elt:Expr) (tb:TB):Prop :=
 ∀(pins:List (Addr×Obj)) (s:Shared) (σ:St) (H:Hp) (K:V→Hp→Prop) (N:Hp→Prop),Inv X pins σ H s→tb K N σ H →
  wpAny (model X.prog X.w) X.A (forIn ifs true fun c r=>if r=true then do let ok ←isTrue c X.env (eval c X.env);pure (ForInStep.yield ok) else pure (ForInStep.yield r))
   (fun ok s3=>if ok=true then wpAny (model X.prog X.w) X.A (eval elt X.env) (fun u s4=>∃v H4,Inv X pins σ H4 s4∧RelV v u∧K v H4) X.xe s3 else ∃H3,Inv X pins σ H3 s3∧N H3) X.xe s
def Yf2 (te:TE):TB:=fun K _ σ H=>te σ H K
def cbIf (tc:TT) (te:TE):TB:=fun K N σ H=>tc σ H fun b H1=>if b=true then te σ H1 K else N H1
theorem Qw5 {X:Cx}{elt:Expr}{te:TE} (he:PE X elt te):PCB X [] elt (Yf2 te):=by
 intro pins s σ H K N I h
 refine wpAny_tests_nil ?_
 rw[if_pos rfl]
 exact he pins s σ H K I h
theorem Xw5 {X:Cx}{c elt:Expr}{tc:TT}{te:TE} (hc:PT X c tc) (he:PE X elt te):PCB X [c] elt (cbIf tc te):=by
 intro pins s σ H K N I h
 refine wpAny_tests_one (thn (hc pins s σ H _ I h) fun b s1 ⟨H1,I1,q1⟩=>?_)
 cases b with
 | true =>
  rw[if_pos rfl]at q1 ⊢
  exact he pins s1 σ H1 K I1 q1
 | false =>
  rw[if_neg Bool.false_ne_true]at q1 ⊢
  exact⟨H1,I1,q1⟩
def Zi4 (nT:Nat) (js:List Nat) (J:It) (g:TG) (tb:TB) (σ:St) (H1:Hp) (Q:VK):Prop :=
 ∃W:Nat→Nat→List V→Hp→Prop,(∃m,W 0 m [] H1)∧∀i m ys H2,W i m ys H2 →
  (J.stop i H2∧ys.length≤sizeLine∧∀l,H2 l=none→Q (.ref l) (upd H2 l (.lst ys))) ∨
  (J.go i H2∧ys.length<sizeLine∧∃N:List V→Hp→Prop,(∀ys' H',N ys' H'→∃m',m'<m∧W (i+1) m' ys' H')∧∀x H3,J.yld i H2 x H3→g x (Qb9 nT js σ) H3 fun σ4 H4=>σ4.drop nT=Qe2 js σ ∧
     tb (fun v H5=>N (ys++[v]) H5) (fun H5=>N ys H5) σ4 H4)
def Yx5 (nT:Nat) (js:List Nat) (wi:TI) (g:TG) (tb:TB):TE:=fun σ H Q=>wi σ H fun J H1=>Zi4 nT js J g tb σ H1 Q
def lobj (its:List Value) (n:Nat):Obj:={ cls:=.type "list",data:=.seq its.toArray n }
section
variable {X:Cx}{pins:List (Addr×Obj)}{σ:St}{H2:Hp}{s2:Shared}{scope:Scope}{T:List Str}{js:List Nat}
theorem Un.track {fs ex:List Addr}{H H':Hp}{h h':Heap}{D:Addr}{o:HO} (u:Un fs ex H H' h h') (hD:h.objs.size≤D) (hn:H' D=none):Un fs ex H (upd H' D o) h h' where
 keep:=u.keep
 slot:=u.slot
 free:=fun b ob e n hx=>by rw[Qz1 (Nat.ne_of_lt (Nat.lt_of_lt_of_le (Heap.lt_size e) hD))];exact u.free b ob e n hx
 there:=u.there
 tups:=fun b xs e=>by have q:=u.tups b xs e;rw[Qz1 (Qk4 q hn)];exact q
 frzs:=fun b ob w e=>by have q:=u.frzs b ob w e;rw[Qz1 (Qk4 q hn)];exact q
 tbls:=fun b ps e=>by obtain⟨m,q⟩:=u.tbls b ps e;exact⟨m,by rw[Qz1 (Qk4 q hn)];exact q⟩
theorem HOk.track {P:Program}{w:World}{H:Hp}{h:Heap}{D:Addr}{o:HO} (x:HOk P w H h) (hn:H D=none) (new:Qv5 P w (upd H D o) h D o):HOk P w (upd H D o) h:=fun b u e=>by
 by_cases hb:b=D
 ·subst hb;rw[Qq1]at e;cases e;exact new
 ·rw[Qz1 hb]at e
  exact(x b u e).stay (fun c v _ q=>q) (fun c q=>by rw[Qz1 (Qk4 q hn)];exact q) fun c xs q=>by rw[Qz1 (Qk4 q hn)];exact q
theorem Xd2 {XC:Cx}{D:Addr}{its:List Value}{n:Nat}{σc:St}{H:Hp}{s:Shared}{u:Value} (I:Inv XC [(D,lobj its n)] σc H s) (hD:XC.s₀.heap.objs.size≤D) (hc:∀x c,XC.env.cells.lookup x=some c→c≠D)
  (hp:∀p∈XC.pn,p.1≠D) (hz:its.length<sizeLine) :
  wpAny (model XC.prog XC.w) XC.A (call (.builtin "list.append") [.ref D,u]) (fun _ s5=>∃n',Inv XC [(D,lobj (its++[u]) n')] σc H s5∧∀b o,b≠D→s.heap.get? b=some o→s5.heap.get? b=some o) (fun _ _=>False) s:=by
 obtain⟨e,hn,hL,hf,hd⟩:=I.pin (D,lobj its n) (List.mem_append_right _ (List.mem_singleton.mpr rfl))
 refine call_meets F.slot_list_append ⟨_,e,rfl⟩ F.entry_list_append (F.args_list_append_2 _ _) (PySem.list_append D its.toArray n u (by rw[List.size_toArray];omega)) ⟨e,?_⟩
 have q:=PySem.IsL.update e (·.push u)
 have I0:Inv XC [] σc H s:=I.pins_of fun p hp=>absurd hp (by simp)
 have k:∀b o,b≠D→s.heap.get? b=some o→(s.heap.update D (Obj.mapSeq (·.push u))).get? b=some o:=fun b o hb e'=>(Heap.get?_update_other s.heap (Obj.mapSeq (·.push u)) (Ne.symm hb)).trans e'
 have I1:Inv XC [] σc H { s with heap:=s.heap.update D (Obj.mapSeq (·.push u)) } :=
  I0.turned (it:=D) (t':=s.toks) k hn hL (.inr hD) hc (fun p hp'=>hp p (by simpa using hp'))
 refine⟨(if ((its++[u]).toArray.size==its.toArray.size)=true then n else n+1),I1.pins_of fun p hp'=>?_,k⟩
 obtain rfl:p=(D,lobj (its++[u]) (if ((its++[u]).toArray.size==its.toArray.size)=true then n else n+1)):=by simpa using hp'
 refine⟨?_,hn,hL,hf,fun v z=>by cases z⟩
 have q':(its.toArray.push u)=(its++[u]).toArray:=by simp
 rw[q']at q
 exact q
theorem Zi5 {tg iter elt:Expr}{ifs:List Expr}{pos:Pos}{g:TG}{tb:TB}{it:Addr}{fp:List Addr}{tn:Nat→Heap→Prop}{J:It}{E:Value→Shared→Prop}{RR:Value→Addr→Result→Shared→Prop}
  (S:CompSc X scope T js) (hc:X.calm=true) (I:Inv X pins σ H2 s2) (TT:Turn X.prog X.w X.K tg J fp it tn) (st:tn 0 s2.heap) (hfp:∀b∈fp,FpOk X pins H2 b)
  (hg:∀C s₀ H₀ ex pn,PG (X.comp scope T js C s₀ H₀ ex pn) tg g) (hb:∀C s₀ H₀ ex pn,PCB (X.comp scope T js C s₀ H₀ ex pn) ifs elt tb) {Q:VK}
  (W:Nat→Nat→List V→Hp→Prop) (w0:∃m,W 0 m [] H2)
  (turn:∀i m ys H2,W i m ys H2 →
   (J.stop i H2∧ys.length≤sizeLine∧∀l,H2 l=none→Q (.ref l) (upd H2 l (.lst ys))) ∨
   (J.go i H2∧ys.length<sizeLine∧∃N:List V→Hp→Prop,(∀ys' H',N ys' H'→∃m',m'<m∧W (i+1) m' ys' H')∧∀x H3,J.yld i H2 x H3→g x (Qb9 T.length js σ) H3 fun σ4 H4=>σ4.drop T.length=Qe2 js σ ∧
    tb (fun v H5=>N (ys++[v]) H5) (fun H5=>N ys H5) σ4 H4))
  (hRR:∀D C s' H' m,s2.heap.objs.size≤C→D≠C→s'.heap.Ns C m→H' C=none→Inv X pins σ H' s'→Q (.ref D) H'→RR (.ref D) C (.ok .next) s') :
  wpAny (model X.prog X.w) X.A (newList []) (fun acc s₃=>wpAny (model X.prog X.w) X.A (newFunctionEnv scope X.env.globals (clOf X.env scope.names []) [] X.env.qual none .none (some X.env)) (fun cenv s₄ =>
   codeAny (model X.prog X.w) X.A (.compStart (.ListComp elt [⟨tg,iter,ifs,0⟩] scope pos) 0 (.ref it) acc { cenv with scope:=relabel scope X.env }) (RR acc cenv.locals) s₄) E s₃) E s2:=by
 have ob:∀b∈fp,∃o,s2.heap.get? b=some o:=fun b hb=>by obtain⟨o,e,_⟩:=TT.obj 0 _ st b hb;exact⟨o,e⟩
 have ltf:∀b∈fp,b<s2.heap.objs.size:=fun b hb=>by obtain⟨o,e⟩:=ob b hb;exact Heap.lt_size e
 have hcell:∀y∈scope.names,y.2≠.cell:=fun y hy=>of_decide_eq_true (List.all_eq_true.mp S.cell y hy)
 refine wpAny_newObj_type (wpAny_newFunctionEnv hcell (by intro y hy;simp at hy) (fun h₁ hns₁ hsb₁=>?_) S.kind)
 dsimp only at hns₁ hsb₁ ⊢
 generalize hHH:s2.heap.push { cls:=.type "list",dict:=none,data:=.seq ([]:List Value).toArray }=HH at hns₁ hsb₁ ⊢
 have hC:HH.objs.size=s2.heap.objs.size+1:=by rw[←hHH,Heap.size_push]
 have hDC:s2.heap.objs.size≠HH.objs.size:=by rw[hC];exact Nat.ne_of_lt (Nat.lt_succ_self _)
 have hCle:s2.heap.objs.size≤HH.objs.size:=by rw[hC];exact Nat.le_succ _
 have below:∀b,b<s2.heap.objs.size→b≠HH.objs.size:=fun b hb=>by rw[hC];exact Nat.ne_of_lt (Nat.lt_succ_of_lt hb)
 have old:∀b o,s2.heap.get? b=some o→h₁.get? b=some o:=fun b o e=>hsb₁.extBut b o (below b (Heap.lt_size e)) (Heap.get?_push_of_some _ (hHH▸Heap.get?_push_of_some _ e))
 have hacc:h₁.get? s2.heap.objs.size=some (lobj [] 0):=hsb₁.extBut _ _ hDC (Heap.get?_push_of_some _ (hHH▸Heap.get?_push_size _ rfl))
 generalize hCC:HH.objs.size=C at *
 generalize hDD:s2.heap.objs.size=D at *
 have I4:∀t4,Inv (X.comp scope T js C s2 H2 fp (X.pn++pins)) [(D,lobj [] 0)] (Qb9 T.length js σ) H2 { s2 with heap:=h₁,toks:=t4 }:=fun t4 =>
  Xd1 S I hc hfp ob (Nat.le_of_eq hDD) hacc (fun v z=>by cases z) (by rw[hDD];exact hCle) hDC old hns₁
 have look:∀x c,(clOf X.env scope.names []).lookup x=some c→X.env.cells.lookup x=some c:=fun x c e=>Qe1 scope.names [] (S.has I) (fun _ _ z=>by simp at z) e
 have ltc:∀x c,X.env.cells.lookup x=some c→c<D:=fun x c e=>by obtain⟨v,q⟩:=I.cell x c e;rw[←hDD];exact q.lt
 have ltp:∀p∈X.pn++pins,p.1<D:=fun p hp=>by rw[←hDD];exact Heap.lt_size (I.pin p hp).1
 have stat:∀{H':Hp}{o:Obj},(∀b∈fp,H' b=none)→∀b∈fp,FpOk (X.comp scope T js C s2 H2 fp (X.pn++pins)) [(D,o)] H' b:=fun hn b hb=>by
  obtain⟨_,q1,q2,q3,q4,q5⟩:=hfp b hb
  have lb:b<D:=ltf b hb
  refine⟨hn b hb,Nat.ne_of_lt (Nat.lt_of_lt_of_le lb hCle),fun z=>?_,.inl hb,fun x c e=>q4 x c (look x c e),fun p hp=>?_⟩
  ·exact(List.mem_cons.mp (I.stkSub b z)).elim q1 q2
  ·rcases List.mem_append.mp hp with hp|hp
   ·exact q5 p hp
   ·obtain rfl:p=(D,_):=by simpa using hp
    exact Nat.ne_of_gt lb
 have loop:∀t4,codeAny (model X.prog X.w) X.A (.compLoop (.ListComp elt [⟨tg,iter,ifs,0⟩] scope pos) 0 (.ref it) (.ref D) (compEnvC scope (clOf X.env scope.names []) C X.env)) (RR (.ref D) C) { s2 with heap:=h₁,toks:=t4 }:=by
  intro t4
  obtain⟨m0,w0⟩:=w0
  refine Xw4 (fun n s'=>∃i ys H' its nn,Inv (X.comp scope T js C s2 H2 fp (X.pn++pins)) [(D,lobj its nn)] (Qb9 T.length js σ) H' s'∧Vals ys its∧tn i s'.heap∧(∀b∈fp,H' b=none)∧W i n ys H') ?_ m0
   ⟨0,[],H2,[],0,I4 t4,.nil,TT.keep _ _ _ st fun b hb o e=>old b o e,fun b hb=>(hfp b hb).1,w0⟩
  rintro n s3 ⟨i,ys,H3,its,nn,I3,v3,st3,fr3,w3⟩
  rcases turn i n ys H3 w3 with ⟨stop,hz,q⟩|⟨go,hz,N,hN,step⟩
  ·refine thn (TT.done (X.comp scope T js C s2 H2 fp (X.pn++pins)) rfl rfl rfl hc i _ s3 _ H3 _ I3 (stat fr3) st3 stop) fun r s4 ⟨hr,I5⟩=>?_
   subst hr
   obtain⟨e,hn,hL,hf,hd⟩:=I5.pin (D,lobj its nn) (List.mem_append_right _ (List.mem_singleton.mpr rfl))
   have hH:HOk X.prog X.w (upd H3 D (.lst ys)) s4.heap:=I5.hok.track hn ⟨hz,its,nn,v3,e⟩
   have hU:Un (frs X.stack) fp H2 (upd H3 D (.lst ys)) s2.heap s4.heap:=Un.track I5.base (Nat.le_of_eq hDD) hn
   have IX:Inv X pins σ (upd H3 D (.lst ys)) s4:=I.call' (ch:=fp) I5.os hU hH I5.bare fun b hb=>by
    obtain⟨_,q1,q2,q3,q4,q5⟩:=hfp b hb
    exact⟨q3,q1,q4,q5⟩
   obtain⟨m,hm,_⟩:=I5.loc
   exact hRR D C s4 _ m hCle hDC hm (by rw[Qz1 (Ne.symm hDC)];exact I5.free) IX (q D hn)
  ·refine thn (TT.item (X.comp scope T js C s2 H2 fp (X.pn++pins)) rfl rfl rfl hc i _ s3 _ H3 _ I3 (stat fr3) st3 go) fun r s4 ⟨u,hr,h4⟩=>?_
   subst hr
   refine thn h4 fun _ s5 ⟨x,H5,I5,r5,y5,st5,fr5⟩=>?_
   have I5':=I5.pinned (stat fr5) (TT.obj _ _ st5)
   refine thn (hg C s2 H2 fp (X.pn++pins) _ s5 _ H5 x u _ I5' r5 (step x H5 y5)) fun _ s6 ⟨σ6,H6,I6,dr,q6⟩=>?_
   have I6':Inv (X.comp scope T js C s2 H2 fp (X.pn++pins)) ([(D,lobj its nn)]++Zy8 fp s5.heap) σ6 H6 s6:=I6
   refine thn (hb C s2 H2 fp (X.pn++pins) _ s6 σ6 H6 _ _ I6' q6) fun ok s7 q7=>?_
   have back:∀{o:Obj}{s8:Shared}{H8:Hp},Inv (X.comp scope T js C s2 H2 fp (X.pn++pins)) ([(D,o)]++Zy8 fp s5.heap) σ6 H8 s8→Inv (X.comp scope T js C s2 H2 fp (X.pn++pins)) [(D,o)] (Qb9 T.length js σ) H8 s8∧tn (i+1) s8.heap∧∀b∈fp,H8 b=none:=fun {o s8 H8} I8=>by
    refine⟨I8.unpinned.weak ?_ fun j v e=>?_,TT.keep _ _ _ st5 fun b hb o' e=>(I8.pin (b,o') (List.mem_append_right _ (List.mem_append_right _ (Zz6 hb e)))).1,fun b hb=>?_⟩
    ·rw[I8.len]
     show (Qb9 T.length js σ).length=(T++X.seen js).length
     unfold Qb9 Qe2
     simp
    ·unfold Qb9 at e
     by_cases hj:j<T.length
     ·rw[List.getElem?_append_left (by simpa using hj),List.getElem?_replicate]at e
      split at e<;>cases e
     ·rw[List.getElem?_append_right (by simpa using hj),List.length_replicate,←dr,List.getElem?_drop]at e
      rw[show T.length+(j-T.length)=j by omega]at e
      exact e
    ·obtain⟨o',e,d⟩:=TT.obj _ _ st5 b hb
     exact(I8.pin (b,o') (List.mem_append_right _ (List.mem_append_right _ (Zz6 hb e)))).2.1
   cases ok with
   | false =>
    rw[if_neg Bool.false_ne_true]at q7 ⊢
    obtain⟨H7,I7,n7⟩:=q7
    obtain⟨m',hm',w7⟩:=hN _ _ n7
    obtain⟨J1,J2,J3⟩:=back I7
    exact⟨m',hm',i+1,ys,H7,its,nn,J1,v3,J2,J3,w7⟩
   | true =>
    rw[if_pos rfl]at q7 ⊢
    refine thn q7 fun u7 s8 ⟨v,H8,I8,r8,n8⟩=>?_
    obtain⟨m',hm',w8⟩:=hN _ _ n8
    obtain⟨J1,J2,J3⟩:=back I8
    have lz:its.length<sizeLine:=by rw[←v3.length];exact hz
    refine thn (Xd2 (XC:=X.comp scope T js C s2 H2 fp (X.pn++pins)) (u:=u7) J1 (Nat.le_of_eq hDD) (fun x c e=>Nat.ne_of_lt (ltc x c (look x c e))) (fun p hp=>Nat.ne_of_lt (ltp p hp)) lz) fun _ s9 ⟨n',I9,k9⟩=>?_
    refine⟨m',hm',i+1,ys++[v],H8,its++[u7],n',I9,v3.append (.cons r8 .nil),TT.keep _ _ _ J2 fun b hb o e=>k9 b o (Nat.ne_of_lt (ltf b hb)) e,J3,w8⟩
 exact codeAny_compStart_list (loop _) (TT.self _ 0 _ _ _ (TT.keep _ _ _ st fun b hb o e=>old b o e) (loop _))
theorem CompSc.names (S:CompSc X scope T js):∀y∈scope.names,y.2=.local→scope.names.lookup y.1=some .local:=fun y hy=>of_decide_eq_true (List.all_eq_true.mp S.loc y hy)
theorem Inv.dropC {C:Addr}{H':Hp}{s s':Shared}{h':Heap} (I:Inv X pins σ H2 s) (hC:s.heap.objs.size≤C) (I':Inv X pins σ H' s') (hn:H' C=none) (hs:Heap.SameBut C s'.heap h'):Inv X pins σ H' { s' with heap:=h' }:=by
 refine I'.turned (it:=C) (t':=s'.toks) (fun b o hb e=>(hs.2 b hb).trans e) hn (Nat.ne_of_gt (Nat.lt_of_lt_of_le I.lt hC)) (.inr (Nat.le_trans I.sz hC)) (fun x c e=>?_) fun p hp=>?_
 ·obtain⟨v,q⟩:=I.cell x c e
  exact Nat.ne_of_lt (Nat.lt_of_lt_of_le q.lt hC)
 ·exact Nat.ne_of_lt (Nat.lt_of_lt_of_le (Heap.lt_size (I.pin p hp).1) hC)
theorem Qp5 {tg iter elt:Expr}{ifs:List Expr}{pos:Pos}{wi:TI}{g:TG}{tb:TB} (T:List Str) (js:List Nat) (S:CompSc X scope T js) (hc:X.calm=true) (hi:PI X tg iter wi)
  (hg:∀C s₀ H₀ ex pn,PG (X.comp scope T js C s₀ H₀ ex pn) tg g) (hb:∀C s₀ H₀ ex pn,PCB (X.comp scope T js C s₀ H₀ ex pn) ifs elt tb)
  (hs:∀x,foldedSetIterable iter X.env x=pure x:=by intro _;rfl):PE X (.ListComp elt [⟨tg,iter,ifs,0⟩] scope pos) (Yx5 T.length js wi g tb):=by
 intro pins s σ H Q I h
 rw[eval_ListComp]
 refine wpAny_comprehension_free (use:=none) rfl hs (Zw4 (S.has I)) S.kind S.names (thn (hi pins s σ H _ I h) fun v s1 h1=>thn h1 fun itv s2 h2=>?_)
 obtain⟨it,fp,tn,J,H2,e,I2,TT,st2,f2,W,w0,turn⟩:=h2
 subst e
 refine Zi5 (RR:=fun acc C=>compPost (model X.prog X.w) X.A X.xe none (EP X pins σ Q) acc C) S hc I2 TT st2 f2 hg hb W w0 turn fun D C s' H' m hC hDC hm hn I' q=>?_
 exact⟨m,hm,fun h' hs'=>⟨.ref D,H',I2.dropC hC I' hn hs',rfl,q⟩⟩
theorem Qf5 {tg iter elt:Expr}{ifs:List Expr}{pos pos' spos:Pos}{wi:TI}{g:TG}{tb:TB}{i:Nat}{x:Str} (T:List Str) (js:List Nat) (hN:X.N.Nodup) (hxi:X.N[i]?=some x) (hx:X.env.scope.names.lookup x=some .local)
  (S:CompSc X scope T js) (hc:X.calm=true) (hi:PI X tg iter wi)
  (hg:∀C s₀ H₀ ex pn,PG (X.comp scope T js C s₀ H₀ ex pn) tg g) (hb:∀C s₀ H₀ ex pn,PCB (X.comp scope T js C s₀ H₀ ex pn) ifs elt tb)
  (hsw:swapsWith (.ListComp elt [⟨tg,iter,ifs,0⟩] scope pos) (some (.Name x pos')) spos.line X.env=pure true:=by rfl)
  (hs:∀x,foldedSetIterable iter X.env x=pure x:=by intro _;rfl):PS X (.Assign [.Name x pos'] (.ListComp elt [⟨tg,iter,ifs,0⟩] scope pos) spos) (tAsg (Yx5 T.length js wi g tb) (Qu5 i)):=by
 intro pins s σ H D0 I h
 rw[exec_Assign_Name_used _ _ _ _ hsw]
 refine wpAny_bind (wpAny_standAt (wpAny_bind ?_))
 show wpAny _ X.A (do let _ ←comprehension (.ListComp elt [⟨tg,iter,ifs,0⟩] scope pos) scope X.env _ (newList []) false (eval iter X.env) (some (assign (.Name x pos') X.env))) _ _ s
 refine wpAny_bind (thn (wpAny_comprehension_free (use:=some (assign (.Name x pos') X.env)) (Q:=fun _ s'=>SP X pins D0 .next s') rfl hs (Zw4 (S.has I)) S.kind S.names (thn (hi pins s σ H _ I h) fun v s1 h1=>thn h1 fun itv s2 h2=>?_)) fun _ s' hq=>wpAny_pure (wpAny_pure hq))
 obtain⟨it,fp,tn,J,H2,e,I2,TT,st2,f2,W,w0,turn⟩:=h2
 subst e
 refine Zi5 (Q:=fun x H1=>Qu5 i x σ H1 D0.nx) (RR:=fun acc C=>compPost (model X.prog X.w) X.A X.xe (some (assign (.Name x pos') X.env)) (fun _ s'=>SP X pins D0 .next s') acc C) S hc I2 TT st2 f2 hg hb W w0 turn fun D C s' H' m hC hDC hm hn I' q=>?_
 show wpAny _ X.A (assign (.Name x pos') X.env (.ref D)) _ _ _
 have nC:X.env.locals≠C:=Nat.ne_of_lt (Nat.lt_of_lt_of_le I2.lt hC)
 refine wpAny_assign_Name (Xq6 I' hN hxi (.inl hx) (v:=.ref D) rfl (fun s3 I3 hs3=>?_) (.inr hx))
 obtain⟨a,sb,ha⟩:=hs3
 have na:C≠a:=by
  rcases ha with z|z
  ·rw[z];exact Ne.symm nC
  ·obtain⟨v,q⟩:=I2.cell x a z
   exact Ne.symm (Nat.ne_of_lt (Nat.lt_of_lt_of_le q.lt hC))
 refine⟨m,hm.sameBut sb na,fun h' hs'=>⟨_,H',?_,q⟩⟩
 refine I3.turned (it:=C) (t':=s3.toks) (fun b o hb e=>(hs'.2 b hb).trans e) hn (Ne.symm nC) (.inr (Nat.le_trans I2.sz hC)) (fun x c e=>?_) fun p hp=>?_
 ·obtain⟨v,q⟩:=I2.cell x c e
  exact Nat.ne_of_lt (Nat.lt_of_lt_of_le q.lt hC)
 ·exact Nat.ne_of_lt (Nat.lt_of_lt_of_le (Heap.lt_size (I2.pin p hp).1) hC)
end
section
variable {nT:Nat}{js:List Nat}{g:TG}{tb:TB}{Q:VK}{σ:St}{H:Hp}
theorem Zz7 {lo:Int}{n:Nat} (Pv:Nat→List V→Hp→Prop) (h0:Pv 0 [] H) (hz:n≤sizeLine) (hlen:∀i ys H,Pv i ys H→ys.length≤i)
  (hs:∀i ys H,i<n→Pv i ys H→g (.int (lo+i)) (Qb9 nT js σ) H fun σ4 H4=>σ4.drop nT=Qe2 js σ∧tb (fun v H5=>Pv (i+1) (ys++[v]) H5) (fun H5=>Pv (i+1) ys H5) σ4 H4)
  (hd:∀ys H,Pv n ys H→∀l,H l=none→Q (.ref l) (upd H l (.lst ys))) :
  Zi4 nT js (Itr lo n) g tb σ H Q:=by
 refine⟨fun i m ys H=>m=n-i∧i≤n∧Pv i ys H,⟨n,by simp,Nat.zero_le _,h0⟩,?_⟩
 rintro i m ys H2 ⟨rfl,hi,p⟩
 have hl:=hlen i ys H2 p
 by_cases hlt:i<n
 ·refine .inr ⟨hlt,by omega,Pv (i+1),fun ys' H' p'=>⟨n-(i+1),by omega,rfl,hlt,p'⟩,fun x H3 y=>?_⟩
  obtain⟨e,y⟩:=y
  subst e y
  exact hs i ys _ hlt p
 ·have e:i=n:=by omega
  subst e
  exact .inl ⟨Nat.le_refl _,by omega,hd ys H2 p⟩
theorem Qw0 {K:PySem.W.Frag}{a:Addr}{xs:List V} (Pv:Nat→List V→Hp→Prop) (h0:Pv 0 [] H) (hz:xs.length≤sizeLine) (hlen:∀i ys H,Pv i ys H→ys.length≤i) (hl:∀i ys H,i≤xs.length→Pv i ys H→SqL K H a xs)
  (hs:∀i x ys H,xs[i]?=some x→Pv i ys H→g x (Qb9 nT js σ) H fun σ4 H4=>σ4.drop nT=Qe2 js σ∧tb (fun v H5=>Pv (i+1) (ys++[v]) H5) (fun H5=>Pv (i+1) ys H5) σ4 H4)
  (hd:∀ys H,Pv xs.length ys H→∀l,H l=none→Q (.ref l) (upd H l (.lst ys))) :
  Zi4 nT js (Itl K a) g tb σ H Q:=by
 refine⟨fun i m ys H=>m=xs.length-i∧i≤xs.length∧Pv i ys H,⟨xs.length,by simp,Nat.zero_le _,h0⟩,?_⟩
 rintro i m ys H2 ⟨rfl,hi,p⟩
 have hl':=hlen i ys H2 p
 have q:=hl i ys H2 hi p
 by_cases hlt:i<xs.length
 ·refine .inr ⟨⟨xs,xs[i],q,by simp[hlt]⟩,by omega,Pv (i+1),fun ys' H' p'=>⟨xs.length-(i+1),by omega,rfl,hlt,p'⟩,fun x H3 y=>?_⟩
  obtain⟨e,y⟩:=y
  subst e
  exact hs i x ys _ (y xs q) p
 ·have e:i=xs.length:=by omega
  subst e
  exact .inl ⟨⟨xs,q,Nat.le_refl _⟩,by omega,hd ys H2 p⟩
end
end L2
namespace L2
open PySem PySem.Spec PyProof.Rows
section
variable {X:Cx}
def clsV:V→Value
 | .ty n=>.type n
 | .ref a=>.ref a
 | _=>.none
theorem Zw9:Qs0 X (.builtin "isinstance") (fun xs H Q=>∃x c t b,xs=[x,c]∧(∀u,RelV c u→u=clsV c)∧TyOf X.K H x t∧PySem.W.kitOne X.K t (clsV c)=some b∧Q (.bl b) H):=by
 intro pins s σ H xs us Q I r h
 obtain⟨x,c,t,b,rfl,hcv,ty,e,q⟩:=h
 obtain⟨u,u',rfl,r1,r2⟩:=r.two
 obtain rfl:=hcv u' r2
 exact Xc9 I r1 ty e fun tk=>⟨.bl b,H,I.tok tk,rfl,q⟩
end
inductive Dt where
 | non|bl (b:Bool)|int (i:Int)|str (x:Str)|lst (xs:List Dt)|tup (xs:List Dt)
mutual
def IsD (H:Hp):Dt→V→Prop
 | .non,v=>v=.non
 | .bl b,v=>v=.bl b
 | .int i,v=>v=.int i
 | .str x,v=>v=.str x
 | .lst ds,v=>∃a xs,v=.ref a∧H a=some (.lst xs)∧IsDs H ds xs
 | .tup ds,v=>∃a xs,v=.ref a∧H a=some (.tup xs)∧IsDs H ds xs
def IsDs (H:Hp):List Dt→List V→Prop
 | [],xs=>xs=[]
 | d::ds,xs=>∃x r,xs=x::r∧IsD H d x∧IsDs H ds r
end
mutual
def eqD:Dt→Dt→Bool
 | .non,.non=>true
 | .bl a,.bl b=>a==b
 | .bl a,.int b=>(if a then 1 else 0)==b
 | .int a,.bl b=>a==(if b then 1 else 0)
 | .int a,.int b=>a==b
 | .str a,.str b=>a==b
 | .lst as,.lst bs=>eqDs as bs
 | .tup as,.tup bs=>eqDs as bs
 | _,_=>false
def eqDs:List Dt→List Dt→Bool
 | [],[]=>true
 | a::as,b::bs=>eqD a b&&eqDs as bs
 | _,_=>false
end
mutual
def Qy5:Dt→Nat
 | .lst ds=>Qv1 ds+1
 | .tup ds=>Qv1 ds+1
 | _=>0
def Qv1:List Dt→Nat
 | []=>0
 | d::ds=>max (Qy5 d) (Qv1 ds)
end
mutual
theorem Qc8:∀d:Dt,eqD d d=true
 | .non=>by unfold eqD;rfl
 | .bl b=>by unfold eqD;simp
 | .int b=>by unfold eqD;simp
 | .str b=>by unfold eqD;simp
 | .lst ds=>by unfold eqD;exact Zf5 ds
 | .tup ds=>by unfold eqD;exact Zf5 ds
theorem Zf5:∀ds:List Dt,eqDs ds ds=true
 | []=>by unfold eqDs;rfl
 | d::ds=>by unfold eqDs;rw[Qc8 d,Zf5 ds];rfl
end
theorem IsDs.length {H:Hp}:∀{ds:List Dt}{xs:List V},IsDs H ds xs→ds.length=xs.length
 | [],xs,h=>by unfold IsDs at h;rw[h];rfl
 | d::ds,xs,h=>by
  unfold IsDs at h
  obtain⟨x,r,rfl,_,h⟩:=h
  simp[IsDs.length h]
theorem IsDs.get {H:Hp}:∀{ds:List Dt}{xs:List V}{i:Nat}{d:Dt},IsDs H ds xs→ds[i]?=some d→∃x,xs[i]?=some x∧IsD H d x
 | [],xs,i,d,h,e=>by simp at e
 | d'::ds,xs,i,d,h,e=>by
  unfold IsDs at h
  obtain⟨x,r,rfl,hx,h⟩:=h
  cases i with
  | zero=>simp at e;subst e;exact⟨x,rfl,hx⟩
  | succ i=>obtain⟨y,e1,e2⟩:=IsDs.get (i:=i) (d:=d) h (by simpa using e);exact⟨y,by simpa using e1,e2⟩
theorem IsDs.get' {H:Hp}{ds:List Dt}{xs:List V}{i:Nat}{x:V} (h:IsDs H ds xs) (e:xs[i]?=some x):∃d,ds[i]?=some d∧IsD H d x:=by
 have hi:i<ds.length:=by rw[h.length];exact(List.getElem?_eq_some_iff.mp e).1
 obtain⟨y,e1,e2⟩:=h.get (List.getElem?_eq_getElem hi)
 rw[e]at e1
 cases e1
 exact⟨_,List.getElem?_eq_getElem hi,e2⟩
mutual
theorem IsD.inj {H:Hp}:∀{d d':Dt}{v:V},IsD H d v→IsD H d' v→d=d'
 | .non,d',v,h,h'=>by unfold IsD at h;subst h;cases d'<;>unfold IsD at h'<;>first|rfl|(cases h';done)|(obtain⟨_,_,z,_⟩:=h';exact nomatch z)
 | .bl b,d',v,h,h'=>by unfold IsD at h;subst h;cases d'<;>unfold IsD at h'<;>first|(cases h';rfl)|(cases h';done)|(obtain⟨_,_,z,_⟩:=h';exact nomatch z)
 | .int b,d',v,h,h'=>by unfold IsD at h;subst h;cases d'<;>unfold IsD at h'<;>first|(cases h';rfl)|(cases h';done)|(obtain⟨_,_,z,_⟩:=h';exact nomatch z)
 | .str b,d',v,h,h'=>by unfold IsD at h;subst h;cases d'<;>unfold IsD at h'<;>first|(cases h';rfl)|(cases h';done)|(obtain⟨_,_,z,_⟩:=h';exact nomatch z)
 | .lst ds,d',v,h,h'=>by
  unfold IsD at h
  obtain⟨a,xs,rfl,ha,hs⟩:=h
  cases d'<;>unfold IsD at h'
  case lst ds' =>
   obtain⟨b,ys,e,hb,hs'⟩:=h'
   cases e
   rw[ha]at hb
   cases hb
   rw[IsDs.inj hs hs']
  case tup ds' =>
   obtain⟨b,ys,e,hb,hs'⟩:=h'
   cases e
   rw[ha]at hb
   cases hb
  all_goals cases h'
 | .tup ds,d',v,h,h'=>by
  unfold IsD at h
  obtain⟨a,xs,rfl,ha,hs⟩:=h
  cases d'<;>unfold IsD at h'
  case tup ds' =>
   obtain⟨b,ys,e,hb,hs'⟩:=h'
   cases e
   rw[ha]at hb
   cases hb
   rw[IsDs.inj hs hs']
  case lst ds' =>
   obtain⟨b,ys,e,hb,hs'⟩:=h'
   cases e
   rw[ha]at hb
   cases hb
  all_goals cases h'
theorem IsDs.inj {H:Hp}:∀{ds ds':List Dt}{xs:List V},IsDs H ds xs→IsDs H ds' xs→ds=ds'
 | [],ds',xs,h,h'=>by
  unfold IsDs at h;subst h
  cases ds'<;>unfold IsDs at h'
  ·rfl
  ·obtain⟨_,_,e,_⟩:=h';cases e
 | d::ds,ds',xs,h,h'=>by
  unfold IsDs at h
  obtain⟨x,r,rfl,hx,hr⟩:=h
  cases ds' with
  | nil=>unfold IsDs at h';cases h'
  | cons d' ds' =>
   unfold IsDs at h'
   obtain⟨y,r',e,hy,hr'⟩:=h'
   cases e
   rw[IsD.inj hx hy,IsDs.inj hr hr']
end
mutual
theorem IsD.mono {H H':Hp} (e:Same H H'):∀{d:Dt}{v:V},IsD H d v→IsD H' d v
 | .non,v,h=>by unfold IsD at h ⊢;exact h
 | .bl _,v,h=>by unfold IsD at h ⊢;exact h
 | .int _,v,h=>by unfold IsD at h ⊢;exact h
 | .str _,v,h=>by unfold IsD at h ⊢;exact h
 | .lst ds,v,h=>by unfold IsD at h ⊢;obtain⟨a,xs,h1,h2,h3⟩:=h;exact⟨a,xs,h1,e _ _ h2,IsDs.mono e h3⟩
 | .tup ds,v,h=>by unfold IsD at h ⊢;obtain⟨a,xs,h1,h2,h3⟩:=h;exact⟨a,xs,h1,e _ _ h2,IsDs.mono e h3⟩
theorem IsDs.mono {H H':Hp} (e:Same H H'):∀{ds:List Dt}{xs:List V},IsDs H ds xs→IsDs H' ds xs
 | [],xs,h=>by unfold IsDs at h ⊢;exact h
 | d::ds,xs,h=>by unfold IsDs at h ⊢;obtain⟨x,r,h1,h2,h3⟩:=h;exact⟨x,r,h1,IsD.mono e h2,IsDs.mono e h3⟩
end
theorem Qt7:∀(as bs:List Dt),as.length=bs.length→eqDs as bs=(List.range as.length).all fun i=>match as[i]?,bs[i]? with|some a,some b=>eqD a b|_,_=>false
 | [],[],_=>by unfold eqDs;rfl
 | a::as,b::bs,h=>by
  unfold eqDs
  rw[Qt7 as bs (by simpa using h),List.length_cons,List.range_succ_eq_map,List.all_cons,List.all_map]
  rfl
 | [],_::_,h=>by simp at h
 | _::_,[],h=>by simp at h
theorem Zk6:∀(as bs:List Dt),as.length≠bs.length→eqDs as bs=false
 | [],[],h=>absurd rfl h
 | a::as,b::bs,h=>by
  unfold eqDs
  rw[Zk6 as bs (by simpa using h),Bool.and_false]
 | [],_::_,_=>by unfold eqDs;rfl
 | _::_,[],_=>by unfold eqDs;rfl
section
variable {X:Cx}{pins:List (Addr×Obj)}{σ:St}{H:Hp}{s:Shared}
def eqIx (as bs:List Dt) (i:Nat):Bool:=match as[i]?,bs[i]? with|some a,some b=>eqD a b|_,_=>false
theorem Xw6 (I:Inv X pins σ H s) {A:Around}{l b:Addr}{xs ys:List V}{ds es:List Dt} (hl:H l=some (.lst xs)) (hb:H b=some (.lst ys)) (h1:IsDs H ds xs) (h2:IsDs H es ys) (hu:A.units<cLine)
  (he:∀us ws,Vals xs us→Vals ys ws→∀(j:Nat) d e u w,ds[j]?=some d→es[j]?=some e→us[j]?=some u→ws[j]?=some w→SeqAt.EqAt A.in1 s u w (eqD d e)):SeqAt.RcAt A s (.ref l) (.ref b) (eqDs ds es):=by
 obtain⟨us,r1,p1,_⟩:=I.list (SqL.of (K:=X.K) hl)
 obtain⟨ws,r2,p2,_⟩:=I.list (SqL.of (K:=X.K) hb)
 have n1:us.length=ds.length:=by rw[←r1.length,h1.length]
 have n2:ws.length=es.length:=by rw[←r2.length,h2.length]
 by_cases hsz:ds.length=es.length
 ·have q:=SeqAt.RcAt.lists (e:=eqIx ds es) p1.isList p2.isList (by simp[n1,n2,hsz]) hu (fun j q1 q2=>by
   have j1:j<us.length:=by simpa using q1
   have j2:j<ws.length:=by simpa using q2
   have g1:ds[j]?=some ds[j]:=List.getElem?_eq_getElem (by omega)
   have g2:es[j]?=some es[j]:=List.getElem?_eq_getElem (by omega)
   have z:=he us ws r1 r2 j _ _ us[j] ws[j] g1 g2 (List.getElem?_eq_getElem j1) (List.getElem?_eq_getElem j2)
   have ez:eqIx ds es j=eqD ds[j] es[j]:=by unfold eqIx;rw[g1,g2]
   rw[ez]
   simpa using z)
  rw[Qt7 ds es hsz]
  rw[List.size_toArray,n1]at q
  exact q
 ·rw[Zk6 ds es hsz]
  exact SeqAt.RcAt.lists_lengths p1.isList p2.isList (by simpa [n1,n2] using hsz) hu
theorem Xz5 (I:Inv X pins σ H s) {A:Around}{l b:Addr}{xs ys:List V}{ds es:List Dt} (hl:H l=some (.tup xs)) (hb:H b=some (.tup ys)) (h1:IsDs H ds xs) (h2:IsDs H es ys) (hu:A.units<cLine)
  (he:∀us ws,Vals xs us→Vals ys ws→∀(j:Nat) d e u w,ds[j]?=some d→es[j]?=some e→us[j]?=some u→ws[j]?=some w→SeqAt.EqAt A.in1 s u w (eqD d e)):SeqAt.RcAt A s (.ref l) (.ref b) (eqDs ds es):=by
 obtain⟨us,r1,p1,_⟩:=I.tuple (SqT.of (K:=X.K) hl)
 obtain⟨ws,r2,p2,_⟩:=I.tuple (SqT.of (K:=X.K) hb)
 have n1:us.length=ds.length:=by rw[←r1.length,h1.length]
 have n2:ws.length=es.length:=by rw[←r2.length,h2.length]
 have q:=SeqAt.RcAt.tuples (e:=eqIx ds es) (show s.heap.IsTuple l us.toArray from p1) (show s.heap.IsTuple b ws.toArray from p2) hu (fun j q1 q2=>by
   have j1:j<us.length:=by simpa using q1
   have j2:j<ws.length:=by simpa using q2
   have g1:ds[j]?=some ds[j]:=List.getElem?_eq_getElem (by omega)
   have g2:es[j]?=some es[j]:=List.getElem?_eq_getElem (by omega)
   have z:=he us ws r1 r2 j _ _ us[j] ws[j] g1 g2 (List.getElem?_eq_getElem j1) (List.getElem?_eq_getElem j2)
   have ez:eqIx ds es j=eqD ds[j] es[j]:=by unfold eqIx;rw[g1,g2]
   rw[ez]
   simpa using z)
 rw[List.size_toArray,List.size_toArray,n1,n2]at q
 by_cases hsz:ds.length=es.length
 ·rw[←hsz,Nat.min_self]at q
  rw[Qt7 ds es hsz]
  have e1:(ds.length==ds.length)=true:=beq_self_eq_true _
  rw[e1,Bool.and_true]at q
  exact q
 ·rw[Zk6 ds es hsz]
  have e0:(ds.length==es.length)=false:=beq_eq_false_iff_ne.mpr hsz
  rw[e0,Bool.and_false]at q
  exact q
theorem Ql0:∀{ds:List Dt}{j:Nat}{d:Dt},ds[j]?=some d→Qy5 d≤Qv1 ds
 | [],j,d,h=>by simp at h
 | d'::ds,j,d,h=>by
  unfold Qv1
  cases j with
  | zero=>simp at h;subst h;exact Nat.le_max_left _ _
  | succ j=>exact Nat.le_trans (Ql0 (j:=j) (by simpa using h)) (Nat.le_max_right _ _)
theorem IsDs.rel {H:Hp}{ds:List Dt}{xs:List V}{us:List Value}{j:Nat}{d:Dt}{u:Value} (h:IsDs H ds xs) (r:Vals xs us) (g:ds[j]?=some d) (g':us[j]?=some u):∃x,IsD H d x∧RelV x u:=by
 obtain⟨x,e,hx⟩:=h.get g
 obtain⟨u',e',ru⟩:=r.get e
 rw[g']at e'
 cases e'
 exact⟨x,hx,ru⟩
def Xk9:Dt→V
 | .non=>.non
 | .bl b=>.bl b
 | .int i=>.int i
 | .str x=>.str x
 | _=>.ref 0
def Qg6:Dt→Bool
 | .lst _=>false
 | .tup _=>false
 | _=>true
theorem IsD.flat {H:Hp}{d:Dt}{v:V} (h:IsD H d v) (f:Qg6 d=true):v=Xk9 d:=by
 cases d with
 | lst _=>cases f
 | tup _=>cases f
 | _=>unfold IsD at h;exact h
theorem Zr4 {d e:Dt} (f:Qg6 d=true) (g:Qg6 e=true):eqD d e=eqV (Xk9 d) (Xk9 e):=by
 cases d<;>first|cases f|skip
 all_goals cases e<;>first|cases g|skip
 all_goals (unfold eqD;rfl)
theorem Qf7 {d:Dt} (f:Qg6 d=true):Qs1 (Xk9 d)=true:=by
 cases d<;>first|rfl|cases f
theorem Zf6 {d e:Dt} (f:Qg6 d=false) (g:Qg6 e=true):eqD d e=false:=by
 cases d<;>first|cases f|skip
 all_goals cases e<;>first|cases g|skip
 all_goals (unfold eqD;rfl)
theorem Zf7 {d e:Dt} (f:Qg6 d=true) (g:Qg6 e=false):eqD d e=false:=by
 cases d<;>first|cases f|skip
 all_goals cases e<;>first|cases g|skip
 all_goals (unfold eqD;rfl)
theorem Xj8 {A:Around}{a:Addr}{items:Array Value} (hl:s.heap.IsList a items) (hu:A.units<cLine) {x:V}{w:Value} (fx:Qs1 x=true) (r:RelV x w):SeqAt.EqAt A s (.ref a) w false:=by
 cases x with
 | non=>obtain rfl:w=Value.none:=r;exact SeqAt.EqAt.list_none hl hu
 | bl b=>obtain rfl:w=Value.bool b:=r;exact SeqAt.EqAt.list_bool b hl hu
 | int b=>obtain⟨t,rfl⟩:=r;exact SeqAt.EqAt.list_int b t hl hu
 | str b=>obtain⟨t,rfl⟩:=r;exact SeqAt.EqAt.list_str b t hl hu
 | _=>exact absurd (show false=true from fx) Bool.false_ne_true
theorem Xj9 {A:Around}{a:Addr}{items:Array Value} (hl:s.heap.IsTuple a items) (hu:A.units<cLine) {x:V}{w:Value} (fx:Qs1 x=true) (r:RelV x w):SeqAt.EqAt A s (.ref a) w false:=by
 cases x with
 | non=>obtain rfl:w=Value.none:=r;exact SeqAt.EqAt.tuple_none hl hu
 | bl b=>obtain rfl:w=Value.bool b:=r;exact SeqAt.EqAt.tuple_bool b hl hu
 | int b=>obtain⟨t,rfl⟩:=r;exact SeqAt.EqAt.tuple_int b t hl hu
 | str b=>obtain⟨t,rfl⟩:=r;exact SeqAt.EqAt.tuple_str b t hl hu
 | _=>exact absurd (show false=true from fx) Bool.false_ne_true
theorem Zp6 {A:Around}{a:Addr}{items:Array Value} (hl:s.heap.IsList a items) (hu:A.units<cLine) {x:V}{w:Value} (fx:Qs1 x=true) (r:RelV x w):SeqAt.EqAt A s w (.ref a) false:=by
 cases x with
 | non=>obtain rfl:w=Value.none:=r;exact SeqAt.EqAt.none_list hl hu
 | bl b=>obtain rfl:w=Value.bool b:=r;exact SeqAt.EqAt.bool_list b hl hu
 | int b=>obtain⟨t,rfl⟩:=r;exact SeqAt.EqAt.int_list b t hl hu
 | str b=>obtain⟨t,rfl⟩:=r;exact SeqAt.EqAt.str_list b t hl hu
 | _=>exact absurd (show false=true from fx) Bool.false_ne_true
theorem Zp7 {A:Around}{a:Addr}{items:Array Value} (hl:s.heap.IsTuple a items) (hu:A.units<cLine) {x:V}{w:Value} (fx:Qs1 x=true) (r:RelV x w):SeqAt.EqAt A s w (.ref a) false:=by
 cases x with
 | non=>obtain rfl:w=Value.none:=r;exact SeqAt.EqAt.none_tuple hl hu
 | bl b=>obtain rfl:w=Value.bool b:=r;exact SeqAt.EqAt.bool_tuple b hl hu
 | int b=>obtain⟨t,rfl⟩:=r;exact SeqAt.EqAt.int_tuple b t hl hu
 | str b=>obtain⟨t,rfl⟩:=r;exact SeqAt.EqAt.str_tuple b t hl hu
 | _=>exact absurd (show false=true from fx) Bool.false_ne_true
theorem IsD.seq {H:Hp}{d:Dt}{v:V} (h:IsD H d v) (f:Qg6 d=false):(∃ds a xs,d=.lst ds∧v=.ref a∧H a=some (.lst xs)∧IsDs H ds xs)∨(∃ds a xs,d=.tup ds∧v=.ref a∧H a=some (.tup xs)∧IsDs H ds xs):=by
 cases d with
 | lst ds=>unfold IsD at h;obtain⟨a,xs,h1,h2,h3⟩:=h;exact .inl ⟨ds,a,xs,rfl,h1,h2,h3⟩
 | tup ds=>unfold IsD at h;obtain⟨a,xs,h1,h2,h3⟩:=h;exact .inr ⟨ds,a,xs,rfl,h1,h2,h3⟩
 | _=>cases f
theorem Zf8 (as bs:List Dt):eqD (.lst as) (.lst bs)=eqDs as bs:=by unfold eqD;rfl
theorem Zg0 (as bs:List Dt):eqD (.tup as) (.tup bs)=eqDs as bs:=by unfold eqD;rfl
theorem Xr5 (as bs:List Dt):eqD (.lst as) (.tup bs)=false:=by unfold eqD;rfl
theorem Xr6 (as bs:List Dt):eqD (.tup as) (.lst bs)=false:=by unfold eqD;rfl
theorem Qo1 (ds:List Dt):Qy5 (.lst ds)=Qv1 ds+1:=by unfold Qy5;rfl
theorem Qi9 (ds:List Dt):Qy5 (.tup ds)=Qv1 ds+1:=by unfold Qy5;rfl
theorem Zi6 (I:Inv X pins σ H s):∀(n:Nat) (d e:Dt) (v x:V) (u w:Value) (A:Around),Qy5 d≤n→IsD H d v→IsD H e x→RelV v u→RelV x w→A.units+n<cLine→SeqAt.EqAt A s u w (eqD d e):=by
 intro n
 induction n with
 | zero =>
  intro d e v x u w A hd h1 h2 r1 r2 hu
  have hu0:A.units<cLine:=by omega
  have fd:Qg6 d=true:=by
   cases d with
   | lst ds=>rw[Qo1]at hd;omega
   | tup ds=>rw[Qi9]at hd;omega
   | _=>rfl
  obtain rfl:=h1.flat fd
  cases fe:Qg6 e with
  | true =>
   obtain rfl:=h2.flat fe
   rw[Zr4 fd fe]
   exact Xw1 r1 r2 (Qf7 fd) (Qf7 fe)
  | false =>
   rw[Zf7 fd fe]
   rcases h2.seq fe with ⟨es,b,ys,rfl,rfl,hb,hs2⟩|⟨es,b,ys,rfl,rfl,hb,hs2⟩
   ·obtain rfl:w=Value.ref b:=r2
    obtain⟨ws,_,p2,_⟩:=I.list (SqL.of (K:=X.K) hb)
    exact Zp6 p2.isList hu0 (Qf7 fd) r1
   ·obtain rfl:w=Value.ref b:=r2
    obtain⟨ws,_,p2,_⟩:=I.tuple (SqT.of (K:=X.K) hb)
    exact Zp7 (show s.heap.IsTuple b ws.toArray from p2) hu0 (Qf7 fd) r1
 | succ n ih =>
  intro d e v x u w A hd h1 h2 r1 r2 hu
  have hu0:A.units<cLine:=by omega
  have hin:A.in1.units+n<cLine:=by show A.units+1+n<cLine;omega
  cases fd:Qg6 d with
  | true =>
   obtain rfl:=h1.flat fd
   cases fe:Qg6 e with
   | true =>
    obtain rfl:=h2.flat fe
    rw[Zr4 fd fe]
    exact Xw1 r1 r2 (Qf7 fd) (Qf7 fe)
   | false =>
    rw[Zf7 fd fe]
    rcases h2.seq fe with ⟨es,b,ys,rfl,rfl,hb,hs2⟩|⟨es,b,ys,rfl,rfl,hb,hs2⟩
    ·obtain rfl:w=Value.ref b:=r2
     obtain⟨ws,_,p2,_⟩:=I.list (SqL.of (K:=X.K) hb)
     exact Zp6 p2.isList hu0 (Qf7 fd) r1
    ·obtain rfl:w=Value.ref b:=r2
     obtain⟨ws,_,p2,_⟩:=I.tuple (SqT.of (K:=X.K) hb)
     exact Zp7 (show s.heap.IsTuple b ws.toArray from p2) hu0 (Qf7 fd) r1
  | false =>
   have h1':=h1
   have h2':=h2
   rcases h1.seq fd with ⟨ds,a,xs,rfl,rfl,ha,hs⟩|⟨ds,a,xs,rfl,rfl,ha,hs⟩
   ·obtain rfl:u=Value.ref a:=r1
    obtain⟨us,_,p1,_⟩:=I.list (SqL.of (K:=X.K) ha)
    cases fe:Qg6 e with
    | true =>
     obtain rfl:=h2.flat fe
     rw[Zf6 fd fe]
     exact Xj8 p1.isList hu0 (Qf7 fe) r2
    | false =>
     rcases h2.seq fe with ⟨es,b,ys,rfl,rfl,hb,hs2⟩|⟨es,b,ys,rfl,rfl,hb,hs2⟩
     ·obtain rfl:w=Value.ref b:=r2
      by_cases hab:a=b
      ·subst hab
       rw[IsD.inj h1' h2',Qc8]
       exact SeqAt.EqAt.same _
      ·rw[Zf8]
       refine SeqAt.EqAt.of_refs hab (Xw6 I ha hb hs hs2 hu0 fun us ws k1 k2 j d e u w g1 g2 g3 g4=>?_)
       obtain⟨x1,q1,q2⟩:=hs.rel k1 g1 g3
       obtain⟨x2,q3,q4⟩:=hs2.rel k2 g2 g4
       exact ih d e x1 x2 u w A.in1 (by have:=Ql0 g1;rw[Qo1]at hd;omega) q1 q3 q2 q4 hin
     ·obtain rfl:w=Value.ref b:=r2
      obtain⟨ws,_,p2,_⟩:=I.tuple (SqT.of (K:=X.K) hb)
      rw[Xr5]
      exact SeqAt.EqAt.list_tuple p1.isList (show s.heap.IsTuple b ws.toArray from p2) hu0
   ·obtain rfl:u=Value.ref a:=r1
    obtain⟨us,_,p1,_⟩:=I.tuple (SqT.of (K:=X.K) ha)
    cases fe:Qg6 e with
    | true =>
     obtain rfl:=h2.flat fe
     rw[Zf6 fd fe]
     exact Xj9 (show s.heap.IsTuple a us.toArray from p1) hu0 (Qf7 fe) r2
    | false =>
     rcases h2.seq fe with ⟨es,b,ys,rfl,rfl,hb,hs2⟩|⟨es,b,ys,rfl,rfl,hb,hs2⟩
     ·obtain rfl:w=Value.ref b:=r2
      obtain⟨ws,_,p2,_⟩:=I.list (SqL.of (K:=X.K) hb)
      rw[Xr6]
      exact SeqAt.EqAt.tuple_list (show s.heap.IsTuple a us.toArray from p1) p2.isList hu0
     ·obtain rfl:w=Value.ref b:=r2
      by_cases hab:a=b
      ·subst hab
       rw[IsD.inj h1' h2',Qc8]
       exact SeqAt.EqAt.same _
      ·rw[Zg0]
       refine SeqAt.EqAt.of_refs hab (Xz5 I ha hb hs hs2 hu0 fun us ws k1 k2 j d e u w g1 g2 g3 g4=>?_)
       obtain⟨x1,q1,q2⟩:=hs.rel k1 g1 g3
       obtain⟨x2,q3,q4⟩:=hs2.rel k2 g2 g4
       exact ih d e x1 x2 u w A.in1 (by have:=Ql0 g1;rw[Qi9]at hd;omega) q1 q3 q2 q4 hin
def rEqD:R2:=fun x y H Q=>∃d e,IsD H d x∧IsD H e y∧Qg6 d=false∧Qg6 e=false∧Qy5 d≤20∧Q (.bl (eqD d e)) H
theorem Yh5 (I:Inv X pins σ H s) {d e:Dt}{v x:V}{u w:Value}{A:Around} (h1:IsD H d v) (h2:IsD H e x) (fd:Qg6 d=false) (fe:Qg6 e=false) (r1:RelV v u) (r2:RelV x w) (hd:Qy5 d≤20) (hu:A.units+20<cLine):SeqAt.RcAt A s u w (eqD d e):=by
 have hu0:A.units<cLine:=by omega
 have hin:A.in1.units+19<cLine:=by show A.units+1+19<cLine;omega
 rcases h1.seq fd with ⟨ds,a,xs,rfl,rfl,ha,hs⟩|⟨ds,a,xs,rfl,rfl,ha,hs⟩
 ·obtain rfl:u=Value.ref a:=r1
  obtain⟨us,_,p1,_⟩:=I.list (SqL.of (K:=X.K) ha)
  rcases h2.seq fe with ⟨es,b,ys,rfl,rfl,hb,hs2⟩|⟨es,b,ys,rfl,rfl,hb,hs2⟩
  ·obtain rfl:w=Value.ref b:=r2
   rw[Zf8]
   refine Xw6 I ha hb hs hs2 hu0 fun us ws k1 k2 j d e u w g1 g2 g3 g4=>?_
   obtain⟨x1,q1,q2⟩:=hs.rel k1 g1 g3
   obtain⟨x2,q3,q4⟩:=hs2.rel k2 g2 g4
   exact Zi6 I 19 d e x1 x2 u w A.in1 (by have:=Ql0 g1;rw[Qo1]at hd;omega) q1 q3 q2 q4 hin
  ·obtain rfl:w=Value.ref b:=r2
   obtain⟨ws,_,p2,_⟩:=I.tuple (SqT.of (K:=X.K) hb)
   rw[Xr5]
   exact SeqAt.RcAt.list_tuple p1.isList (show s.heap.IsTuple b ws.toArray from p2) hu0
 ·obtain rfl:u=Value.ref a:=r1
  obtain⟨us,_,p1,_⟩:=I.tuple (SqT.of (K:=X.K) ha)
  rcases h2.seq fe with ⟨es,b,ys,rfl,rfl,hb,hs2⟩|⟨es,b,ys,rfl,rfl,hb,hs2⟩
  ·obtain rfl:w=Value.ref b:=r2
   obtain⟨ws,_,p2,_⟩:=I.list (SqL.of (K:=X.K) hb)
   rw[Xr6]
   exact SeqAt.RcAt.tuple_list (show s.heap.IsTuple a us.toArray from p1) p2.isList hu0
  ·obtain rfl:w=Value.ref b:=r2
   rw[Zg0]
   refine Xz5 I ha hb hs hs2 hu0 fun us ws k1 k2 j d e u w g1 g2 g3 g4=>?_
   obtain⟨x1,q1,q2⟩:=hs.rel k1 g1 g3
   obtain⟨x2,q3,q4⟩:=hs2.rel k2 g2 g4
   exact Zi6 I 19 d e x1 x2 u w A.in1 (by have:=Ql0 g1;rw[Qi9]at hd;omega) q1 q3 q2 q4 hin
end
section
variable {X:Cx}
theorem Zg1 (hu:X.A.units+20<cLine):OpR X (compareOp .Eq) rEqD:=by
 intro pins s σ H x y v u Q I rx ry h
 obtain⟨d,e,h1,h2,s1,s2,hd,q⟩:=h
 exact Yh5 I h1 h2 s1 s2 rx ry hd hu X.prog X.w X.xe _ ⟨.bl (eqD d e),H,I,rfl,q⟩
end
end L2
namespace L2
open PySem PySem.Spec PyProof.Rows
structure Bt (mg:Str→Option Value):Prop where
 len:mg "len" = none
 range:mg "range" = none
 isinstance:mg "isinstance" = none
 all:mg "all" = none
 any:mg "any" = none
 sum:mg "sum" = none
 min:mg "min" = none
 max:mg "max" = none
 int:mg "int" = none
 bool:mg "bool" = none
 tuple:mg "tuple" = none
 list:mg "list" = none
 reversed:mg "reversed" = none
theorem Qj3:bootBuiltins "len" = some (.builtin "len"):=by decide +kernel
theorem Qu8:bootBuiltins "isinstance" = some (.builtin "isinstance"):=by decide +kernel
theorem Yh6:bootBuiltins "sum" = some (.builtin "sum"):=by decide +kernel
theorem Xw7:bootBuiltins "int" = some (.type "int"):=by decide +kernel
theorem Yk6:bootBuiltins "bool" = some (.type "bool"):=by decide +kernel
theorem Ql1:bootBuiltins "tuple" = some (.type "tuple"):=by decide +kernel
theorem Qm4:bootBuiltins "list" = some (.type "list"):=by decide +kernel
structure Callee (P:Program) (w:World) (K:PySem.W.Frag) (mg:Str→Option Value) (base:Heap) (CX:CXT) (x:Str) (k:Nat) (ps:List Str) (sp:Sp):Prop where
 ex:∃f fd,mg x=some (.ref f)∧PySem.W.keepIn K (.ref f)=true∧Qn8 K fd ps []∧FnOk P w K mg base CX k f fd ps sp
section
variable {X:Cx}{CX:CXT}{j k:Nat}{ps:List Str}{sp:Sp}{x:Str}{p pos:Pos}{e:Expr}{es:List Expr}{t:TA}
def CXNo (CX:CXT):Prop:=∀outer H s e s',¬CX outer H s E0 e s'
theorem Xv0:CXNo CX0:=fun _ _ _ _ _ h=>h
theorem Zi7 (h:CXNo CX):Zk3 CX X E0:=fun _ _ H s e s' _ q=>(h _ H s e s' q).elim
theorem Qj6 (c:Callee X.prog X.w X.K X.mg X.base CX x k ps sp) (hr:Room j X.A) (ha:PA X (e::es) t) (hk:k≤j:=by decide) (hx:CXNo CX:=by exact Xv0) (hg:Gl X x:=by rfl)
  (hdb:(x==("__debug__" : Str))=false:=by decide) (he:starEach (e::es) X.env=(false,eval e X.env)::starEach es X.env:=by rfl) (hpl:(backTo pos (starEach es X.env)).any (·.1)=false:=by rfl) :
  PE X (.Call (.Name x p) (e::es) [] pos) (Yx3 sp [] E0 t):=by
 obtain⟨f,fd,hm,hkp,hb,F⟩:=c.ex
 exact Yj7 F (hr.mono hk) hg hm hkp hb .nil (Zi7 hx) ha hdb he hpl
end
theorem Qq5 {H:Hp}{l:Addr}{o:HO} (h:H l=none):Same H (upd H l o):=fun b u e=>by rw[Qz1 (Qk4 e h)];exact e
theorem Qw6 {H H':Hp}{l:Addr}{o:HO} (s:Same H H') (h:H l=none):Same H (upd H' l o):=fun b u e=>by rw[Qz1 (Qk4 e h)];exact s b u e
theorem Xp9 {ns:List Int}{i:Nat}{x:V} (h:(ns.map V.int)[i]?=some x):∃z,ns[i]?=some z∧x=.int z:=by
 rw[List.getElem?_map]at h
 cases e:ns[i]? with
 | none=>rw[e]at h;cases h
 | some z=>rw[e]at h;exact⟨z,rfl,(Option.some.inj h).symm⟩
theorem pz {j:Int} (h:decide (0<j)=true):0<j:=of_decide_eq_true h
theorem Xw8 {z y:Int}:(decide (V.int z=V.int y)=true)↔z=y:=by
 constructor
 ·intro h;have:=of_decide_eq_true h;cases this;rfl
 ·intro h;subst h;exact decide_eq_true rfl
def Yx6 (t u:TS):TS:=fun D σ H=>∃J:St→Hp→Prop,t { D with nx:=J } σ H∧∀σ' H',J σ' H'→u D σ' H'
theorem Qs4 {X:Cx}{st:Stmt}{rest:List Stmt}{t u:TS} (h1:PS X st t) (h2:PSs X rest u):PSs X (st::rest) (Yx6 t u):=by
 intro pins s σ H D I h
 obtain⟨J,h,hj⟩:=h
 refine wpAny_execs_cons (thn (h1 pins s σ H _ I h) fun f s1 q=>?_)
 cases f with
 | next=>obtain⟨σ1,H1,I1,q1⟩:=q;exact h2 pins s1 σ1 H1 D I1 (hj σ1 H1 q1)
 | brk=>exact q
 | cont=>exact q
 | ret v=>exact q
theorem Zf9 {H:Hp}:∀ns:List Int,IsDs H (ns.map Dt.int) (ns.map V.int)
 | []=>by unfold IsDs;rfl
 | n::r=>by
  show IsDs H (Dt.int n::r.map Dt.int) (V.int n::r.map V.int)
  unfold IsDs
  exact⟨_,_,rfl,by unfold IsD;rfl,Zf9 r⟩
theorem Zh7:∀ns:List Int,Qv1 (ns.map Dt.int)=0
 | []=>by unfold Qv1;rfl
 | n::r=>by
  show Qv1 (Dt.int n::r.map Dt.int)=0
  unfold Qv1
  rw[Zh7 r]
  unfold Qy5
  rfl
theorem Xo0 {H:Hp}{a:Addr}{ns:List Int} (h:H a=some (.lst (ns.map V.int))):IsD H (.lst (ns.map Dt.int)) (.ref a):=by unfold IsD;exact⟨a,_,rfl,h,Zf9 ns⟩
theorem Xo1 {H:Hp}{a:Addr}{ns:List Int} (h:H a=some (.tup (ns.map V.int))):IsD H (.tup (ns.map Dt.int)) (.ref a):=by unfold IsD;exact⟨a,_,rfl,h,Zf9 ns⟩
theorem Qt0 {k:Nat}{A:Around} (hr:Room k A):A.units+20<cLine:=by have:=hr.units;omega
end L2
namespace L2
open PySem PySem.Spec PyProof.Rows
section
variable {prog:Program}{w:World}{A:Around}{s:Shared}{R:Result→Shared→Prop}
variable {I:Addr}{fp wr:List Addr}{G:Array GenState→Array GenState→Prop}{n:Nat}{P:Nat→Value→Prop}{St:Nat→Shared→Prop}
end
section
variable {prog:Program}{w:World}{A:Around}{E:Value→Shared→Prop}{s:Shared}
variable {I:Addr}{fp wr:List Addr}{G:Array GenState→Array GenState→Prop}{n:Nat}{P:Nat→Value→Prop}{St:Nat→Shared→Prop}
end
section
variable {X:Cx}{e:Expr}{te:TE}{p1 p2 pos pos2:Pos}
end
section
variable {X:Cx}{pins:List (Addr×Obj)}{σ:St}{H:Hp}{s:Shared}
theorem Xr7 (I:Inv X pins σ H s) {A:Around}{l b:Addr}{xs ys:List V}{ds es:List Dt} (hl:H l=some (.lst xs)) (hb:H b=some (.lst ys)) (h1:IsDs H ds xs) (h2:IsDs H es ys) (hu:A.units<cLine)
  (he:∀us ws,Vals xs us→Vals ys ws→∀(j:Nat) d e u w,ds[j]?=some d→es[j]?=some e→us[j]?=some u→ws[j]?=some w→SeqAt.EqAt A.in1 s u w (eqD d e)):SeqAt.RcNeAt A s (.ref l) (.ref b) (!eqDs ds es):=by
 obtain⟨us,r1,p1,_⟩:=I.list (SqL.of (K:=X.K) hl)
 obtain⟨ws,r2,p2,_⟩:=I.list (SqL.of (K:=X.K) hb)
 have n1:us.length=ds.length:=by rw[←r1.length,h1.length]
 have n2:ws.length=es.length:=by rw[←r2.length,h2.length]
 by_cases hsz:ds.length=es.length
 ·have q:=SeqAt.RcNeAt.lists (e:=eqIx ds es) p1.isList p2.isList (by simp[n1,n2,hsz]) hu (fun j q1 q2=>by
   have j1:j<us.length:=by simpa using q1
   have j2:j<ws.length:=by simpa using q2
   have g1:ds[j]?=some ds[j]:=List.getElem?_eq_getElem (by omega)
   have g2:es[j]?=some es[j]:=List.getElem?_eq_getElem (by omega)
   have z:=he us ws r1 r2 j _ _ us[j] ws[j] g1 g2 (List.getElem?_eq_getElem j1) (List.getElem?_eq_getElem j2)
   have ez:eqIx ds es j=eqD ds[j] es[j]:=by unfold eqIx;rw[g1,g2]
   rw[ez]
   simpa using z)
  rw[Qt7 ds es hsz]
  rw[List.size_toArray,n1]at q
  exact q
 ·rw[Zk6 ds es hsz]
  exact SeqAt.RcNeAt.lists_lengths p1.isList p2.isList (by simpa [n1,n2] using hsz) hu
theorem Xd3 (I:Inv X pins σ H s) {A:Around}{l b:Addr}{xs ys:List V}{ds es:List Dt} (hl:H l=some (.tup xs)) (hb:H b=some (.tup ys)) (h1:IsDs H ds xs) (h2:IsDs H es ys) (hu:A.units<cLine)
  (he:∀us ws,Vals xs us→Vals ys ws→∀(j:Nat) d e u w,ds[j]?=some d→es[j]?=some e→us[j]?=some u→ws[j]?=some w→SeqAt.EqAt A.in1 s u w (eqD d e)):SeqAt.RcNeAt A s (.ref l) (.ref b) (!eqDs ds es):=by
 obtain⟨us,r1,p1,_⟩:=I.tuple (SqT.of (K:=X.K) hl)
 obtain⟨ws,r2,p2,_⟩:=I.tuple (SqT.of (K:=X.K) hb)
 have n1:us.length=ds.length:=by rw[←r1.length,h1.length]
 have n2:ws.length=es.length:=by rw[←r2.length,h2.length]
 have q:=SeqAt.RcNeAt.tuples (e:=eqIx ds es) (show s.heap.IsTuple l us.toArray from p1) (show s.heap.IsTuple b ws.toArray from p2) hu (fun j q1 q2=>by
   have j1:j<us.length:=by simpa using q1
   have j2:j<ws.length:=by simpa using q2
   have g1:ds[j]?=some ds[j]:=List.getElem?_eq_getElem (by omega)
   have g2:es[j]?=some es[j]:=List.getElem?_eq_getElem (by omega)
   have z:=he us ws r1 r2 j _ _ us[j] ws[j] g1 g2 (List.getElem?_eq_getElem j1) (List.getElem?_eq_getElem j2)
   have ez:eqIx ds es j=eqD ds[j] es[j]:=by unfold eqIx;rw[g1,g2]
   rw[ez]
   simpa using z)
 rw[List.size_toArray,List.size_toArray,n1,n2]at q
 by_cases hsz:ds.length=es.length
 ·rw[←hsz,Nat.min_self]at q
  rw[Qt7 ds es hsz]
  have e1:(ds.length==ds.length)=true:=beq_self_eq_true _
  rw[e1,Bool.and_true]at q
  exact q
 ·rw[Zk6 ds es hsz]
  have e0:(ds.length==es.length)=false:=beq_eq_false_iff_ne.mpr hsz
  rw[e0,Bool.and_false]at q
  exact q
theorem Yk7 (I:Inv X pins σ H s) {d e:Dt}{v x:V}{u w:Value}{A:Around} (h1:IsD H d v) (h2:IsD H e x) (hk:(∃ds es,d=.lst ds∧e=.lst es)∨(∃ds es,d=.tup ds∧e=.tup es)) (r1:RelV v u) (r2:RelV x w) (hd:Qy5 d≤20) (hu:A.units+20<cLine):SeqAt.RcNeAt A s u w (!eqD d e):=by
 have hu0:A.units<cLine:=by omega
 have hin:A.in1.units+19<cLine:=by show A.units+1+19<cLine;omega
 rcases hk with ⟨ds,es,rfl,rfl⟩|⟨ds,es,rfl,rfl⟩
 ·unfold IsD at h1 h2
  obtain⟨a,xs,rfl,ha,hs⟩:=h1
  obtain⟨b,ys,rfl,hb,hs2⟩:=h2
  obtain rfl:u=Value.ref a:=r1
  obtain rfl:w=Value.ref b:=r2
  rw[Zf8]
  refine Xr7 I ha hb hs hs2 hu0 fun us ws k1 k2 j d e u w g1 g2 g3 g4=>?_
  obtain⟨x1,q1,q2⟩:=hs.rel k1 g1 g3
  obtain⟨x2,q3,q4⟩:=hs2.rel k2 g2 g4
  exact Zi6 I 19 d e x1 x2 u w A.in1 (by have:=Ql0 g1;rw[Qo1]at hd;omega) q1 q3 q2 q4 hin
 ·unfold IsD at h1 h2
  obtain⟨a,xs,rfl,ha,hs⟩:=h1
  obtain⟨b,ys,rfl,hb,hs2⟩:=h2
  obtain rfl:u=Value.ref a:=r1
  obtain rfl:w=Value.ref b:=r2
  rw[Zg0]
  refine Xd3 I ha hb hs hs2 hu0 fun us ws k1 k2 j d e u w g1 g2 g3 g4=>?_
  obtain⟨x1,q1,q2⟩:=hs.rel k1 g1 g3
  obtain⟨x2,q3,q4⟩:=hs2.rel k2 g2 g4
  exact Zi6 I 19 d e x1 x2 u w A.in1 (by have:=Ql0 g1;rw[Qi9]at hd;omega) q1 q3 q2 q4 hin
end
section
variable {X:Cx}
def rNeS:R2:=fun x y H Q=>∃d e,IsD H d x∧IsD H e y∧((∃ds es,d=.lst ds∧e=.lst es)∨(∃ds es,d=.tup ds∧e=.tup es))∧Qy5 d≤20∧Q (.bl (!eqD d e)) H
theorem Zi8 (hu:X.A.units+20<cLine):OpR X (compareOp .NotEq) rNeS:=by
 intro pins s σ H x y v u Q I rx ry h
 obtain⟨d,e,h1,h2,hk,hd,q⟩:=h
 exact Yk7 I h1 h2 hk rx ry hd hu X.prog X.w X.xe _ ⟨.bl (!eqD d e),H,I,rfl,q⟩
end
theorem IsDs.snoc {H:Hp}{d:Dt}{v:V}:∀{ds:List Dt}{ys:List V},IsDs H ds ys→IsD H d v→IsDs H (ds++[d]) (ys++[v])
 | [],ys,h,hv=>by
  unfold IsDs at h
  subst h
  show IsDs H [d] [v]
  unfold IsDs
  exact⟨v,[],rfl,hv,by unfold IsDs;rfl⟩
 | d'::ds,ys,h,hv=>by
  unfold IsDs at h
  obtain⟨x,r,rfl,hx,hr⟩:=h
  show IsDs H (d'::(ds++[d])) (x::(r++[v]))
  unfold IsDs
  exact⟨x,_,rfl,hx,IsDs.snoc hr hv⟩
def PvD (H0:Hp) (f:Nat→Dt) (i:Nat) (ys:List V) (H':Hp):Prop:=Same H0 H'∧IsDs H' ((List.range i).map f) ys
theorem PvD.zero {H0 H':Hp}{f:Nat→Dt} (s:Same H0 H'):PvD H0 f 0 [] H':=⟨s,by show IsDs H' [] [];unfold IsDs;rfl⟩
theorem PvD.len {H0:Hp}{f:Nat→Dt}{i:Nat}{ys:List V}{H':Hp} (p:PvD H0 f i ys H'):ys.length≤i:=by
 have:=p.2.length;rw[List.length_map,List.length_range]at this;omega
theorem PvD.next {H0:Hp}{f:Nat→Dt}{i:Nat}{ys:List V}{H1 H2:Hp}{v:V} (p:PvD H0 f i ys H1) (s:Same H1 H2) (d:IsD H2 (f i) v):PvD H0 f (i+1) (ys++[v]) H2:=by
 refine⟨p.1.trans s,?_⟩
 rw[List.range_succ,List.map_append]
 exact(IsDs.mono s p.2).snoc d
section
variable {X:Cx} (K:PySem.W.Frag)
theorem Qk0 (h:X.K=K:=by rfl):IxR X (rIxL K):=by subst h;exact Ze1
theorem Qx6 (h:X.K=K:=by rfl):IxR X (rIxT K):=by subst h;exact Yh0
theorem Zk7 (h:X.K=K:=by rfl):SlR X (rSlL K):=by subst h;exact Yk2
theorem Yk8 (h:X.K=K:=by rfl):SlR X (rSlT K):=by subst h;exact Yg9
theorem Qx5 (h:X.K=K:=by rfl):Qs0 X (.builtin "len") (fun xs H Q=>∃p ys,xs=[.ref p]∧(SqL K H p ys∨SqT K H p ys)∧Q (.int ys.length) H):=by subst h;exact Zk5
theorem Qb6 (h:X.K=K:=by rfl):Qs0 X (.type "list") (fun xs H Q=>∃p ys,xs=[.ref p]∧(SqL K H p ys∨SqT K H p ys)∧∀l,H l=none→Q (.ref l) (upd H l (.lst ys))):=by subst h;exact Xw2
theorem Qn7 (h:X.K=K:=by rfl):Qs0 X (.type "tuple") (fun xs H Q=>∃p ys,xs=[.ref p]∧((SqL K H p ys∧∀l,H l=none→Q (.ref l) (upd H l (.tup ys)))∨(SqT K H p ys∧Q (.ref p) H))):=by subst h;exact Qn9
theorem Qt8 (h:X.K=K:=by rfl):Qs0 X (.builtin "isinstance") (fun xs H Q=>∃x c t b,xs=[x,c]∧(∀u,RelV c u→u=clsV c)∧TyOf K H x t∧PySem.W.kitOne K t (clsV c)=some b∧Q (.bl b) H):=by subst h;exact Zw9
theorem Qw2 {tg l:Expr}{tl:TE} (hl:PE X l tl) (h:X.K=K:=by rfl):PI X tg l (Yx1 K tl):=by subst h;exact Zd8 hl
theorem Yk9 {tg l:Expr}{tl:TE} (hl:PE X l tl) (h:X.K=K:=by rfl):PI X tg l (iTup K tl):=by subst h;exact Yg6 hl
end
end L2
namespace L2
open PySem PySem.Spec PyProof.Rows
section
variable {X:Cx}{tg:Expr}
end
structure Method (P:Program) (w:World) (K:PySem.W.Frag) (mg:Str→Option Value) (base:Heap) (CX:CXT) (C:Addr) (m:Str) (k:Nat) (ps:List Str) (sp:Sp):Prop where
 cl:Cls K C
 ex:∃f fd,Meth K C m f∧Qn8 K fd ps []∧FnOk P w K mg base CX k f fd ps sp
structure Maker (P:Program) (w:World) (K:PySem.W.Frag) (mg:Str→Option Value) (base:Heap) (CX:CXT) (x:Str) (C:Addr) (k:Nat) (ps:List Str) (sp:Sp):Prop where
 ex:∃f fd,mg x=some (.ref C)∧Mk K C f∧Qn8 K fd ps []∧FnOk P w K mg base CX k f fd ps sp
section
variable {X:Cx}{CX:CXT}{j k:Nat}{ps:List Str}{sp:Sp}{x m:Str}{C:Addr}{p pos apos:Pos}{o e:Expr}{es:List Expr}{ta:TE}{t:TA}
theorem Qp0 (c:Method X.prog X.w X.K X.mg X.base CX C m k ps sp) (he:PE X o ta) (hr:Room j X.A) (ha:PA X (e::es) t) {pl:Sem Bool} (hk:k≤j:=by decide) (hx:CXNo CX:=by exact Xv0)
  (hst:starEach (e::es) X.env=(false,eval e X.env)::starEach es X.env:=by rfl) (hpl:(backTo pos (starEach es X.env)).any (·.1)=false:=by rfl)
  (ht:eval (.Call (.Attribute o m apos) (e::es) [] pos) X.env=(do
   let ov ←eval o X.env
   standAt apos.atName
   let (f,first) ←holding [ov] (getMethod ov m pl)
   callWith pos f first (backTo pos (starEach (e::es) X.env)) (backToKw pos (keywordEach [] X.env))):=by rfl) :
  PE X (.Call (.Attribute o m apos) (e::es) [] pos) (Xk8 C m sp [] E0 ta t):=by
 obtain⟨f,fd,hm,hb,F⟩:=c.ex
 exact Yj8 (pl:=pl) he c.cl hm F (hr.mono hk) hb .nil (Zi7 hx) ha hst hpl ht
theorem Yv0 (c:Method X.prog X.w X.K X.mg X.base CX C m k ps sp) (he:PE X o ta) (hr:Room j X.A) {pl:Sem Bool} (hk:k≤j:=by decide) (hx:CXNo CX:=by exact Xv0)
  (ht:eval (.Call (.Attribute o m apos) [] [] pos) X.env=(do
   let ov ←eval o X.env
   standAt apos.atName
   let (f,first) ←holding [ov] (getMethod ov m pl)
   callWith pos f first (backTo pos (starEach [] X.env)) (backToKw pos (keywordEach [] X.env))):=by rfl) :
  PE X (.Call (.Attribute o m apos) [] [] pos) (Xk8 C m sp [] E0 ta tNil):=by
 obtain⟨f,fd,hm,hb,F⟩:=c.ex
 exact Xa5 (pl:=pl) he c.cl hm F (hr.mono hk) hb .nil (Zi7 hx) ht
theorem Zm0 (c:Maker X.prog X.w X.K X.mg X.base CX x C k ps sp) (hr:Room j X.A) (ha:PA X (e::es) t) (hk:k+1≤j:=by decide) (hx:CXNo CX:=by exact Xv0) (hg:Gl X x:=by rfl)
  (hdb:(x==("__debug__" : Str))=false:=by decide) (he:starEach (e::es) X.env=(false,eval e X.env)::starEach es X.env:=by rfl) (hpl:(backTo pos (starEach es X.env)).any (·.1)=false:=by rfl) :
  PE X (.Call (.Name x p) (e::es) [] pos) (Yx4 C sp [] E0 t):=by
 obtain⟨f,fd,hm,M,hb,F⟩:=c.ex
 exact Yj9 M F (hr.mono hk) hg hm hb .nil (Zi7 hx) ha hdb he hpl
end
end L2
namespace L2
open PySem PySem.Spec PyProof.Rows
section
variable {X:Cx}{pins:List (Addr×Obj)}{σ:St}{H:Hp}{s:Shared}{h':Heap}
theorem Inv.turnedL {t':Nat}{ch:List Addr}{a:Addr}{o:HO} (I:Inv X pins σ H s) (k:∀b o,b∉ch→s.heap.get? b=some o→h'.get? b=some o) (hf:∀b∈ch,FpOk X pins H b) (hp:s.heap.objs.size≤a)
  (new:Qv5 X.prog X.w (upd H a o) h' a o):Inv X pins σ (upd H a o) { s with heap:=h',toks:=t' }:=by
 have nit:∀b u,H b=some u→b∉ch:=fun b u e z=>by rw[(hf b z).1]at e;cases e
 have na:∀b u,H b=some u→b≠a:=fun b u e z=>by rw[z,I.hok.fresh hp]at e;cases e
 have nb:∀b ob,s.heap.get? b=some ob→b≠a:=fun b ob e z=>absurd (Heap.lt_size e) (by rw[z];exact Nat.not_lt.mpr hp)
 have hL:X.env.locals∉ch:=fun z=>(hf _ z).2.1 rfl
 refine I.step (g':=s.gens) (d':=s.drawn) (ch:=ch) (fun b hb=>?_) (fun b o _ _ hc e _=>k b o hc e) (fun b o _ _ hc e _=>⟨o.slots,k b o hc e⟩) (fun b ob _ e n=>by rw[Qz1 (nb b ob e)];exact n)
  (fun b o hc e=>⟨o,k b o hc e⟩) (fun b xs e=>by rw[Qz1 (na b _ e)];exact e) (fun b _ _ e=>by rw[Qz1 (na b _ e)];exact e) (fun b ps e=>⟨#[],by rw[Qz1 (na b _ e),e];simp⟩) (fun m hm=>?_) (fun b u e=>?_) I.bare
 ·obtain⟨f0,f1,f2,f3,f4,f5⟩:=hf b hb
  exact⟨f3,f1,f4,f5⟩
 ·obtain⟨o,es,ep,ho,r⟩:=hm
  exact⟨o,es,ep,k _ o hL ho,r⟩
 ·by_cases hb:b=a
  ·subst hb
   rw[Qq1]at e
   cases e
   exact new
  ·rw[Qz1 hb]at e
   refine(I.hok b u e).stay (fun c v hc q=>k c v ?_ q) (fun c q=>by rw[Qz1 (na c _ q)];exact q) fun c xs q=>by rw[Qz1 (na c _ q)];exact q
   rcases hc with z|z
   ·rw[z];exact nit b u e
   ·exact nit c _ z
theorem Inv.turnedS {t':Nat}{ch:List Addr} (I:Inv X pins σ H s) (k:∀b o,b∉ch→s.heap.get? b=some o→h'.get? b=some o) (hf:∀b∈ch,FpOk X pins H b):Inv X pins σ H { s with heap:=h',toks:=t' }:=by
 have nit:∀b u,H b=some u→b∉ch:=fun b u e z=>by rw[(hf b z).1]at e;cases e
 have hL:X.env.locals∉ch:=fun z=>(hf _ z).2.1 rfl
 refine I.step (g':=s.gens) (d':=s.drawn) (ch:=ch) (fun b hb=>?_) (fun b o _ _ hc e _=>k b o hc e) (fun b o _ _ hc e _=>⟨o.slots,k b o hc e⟩) (fun b ob _ e n=>n)
  (fun b o hc e=>⟨o,k b o hc e⟩) (fun b xs e=>e) (fun b _ _ e=>e) (fun b ps e=>⟨#[],by rw[e];simp⟩) (fun m hm=>?_) (fun b u e=>?_) I.bare
 ·obtain⟨f0,f1,f2,f3,f4,f5⟩:=hf b hb
  exact⟨f3,f1,f4,f5⟩
 ·obtain⟨o,es,ep,ho,r⟩:=hm
  exact⟨o,es,ep,k _ o hL ho,r⟩
 ·refine(I.hok b u e).stay (fun c v hc q=>k c v ?_ q) (fun c q=>q) fun c xs q=>q
  rcases hc with z|z
  ·rw[z];exact nit b u e
  ·exact nit c _ z
theorem FpOk.upd {b a:Addr}{o:HO} (f:FpOk X pins H b) (h:b≠a):FpOk X pins (upd H a o) b:=⟨by rw[Qz1 h];exact f.1,f.2⟩
end
section
variable {X:Cx}{elts:List Expr}{x1:Nat}{pos:Pos}
theorem Yh7:bootBuiltins "zip" = some (.type "zip"):=by decide +kernel
theorem Xw9:bootBuiltins "enumerate" = some (.type "enumerate"):=by decide +kernel
end
section
variable {X:Cx}{elts:List Expr}{x1:Nat}{pos:Pos}
end
theorem Zg2 (K:PySem.W.Frag) {X:Cx}{pos:Pos}{es:List Expr}{k:Nat}{t:TGs} (n:Nat) (hc:X.calm=true) (h:PGs X es t) (hK:X.K=K:=by rfl)
  (hn:(assignEach es X.env).length=n:=by rfl) (hst:(assignEach es X.env).findIdx? (·.1)=none:=by rfl):PG X (.Tuple es k pos) (gTup K n t):=by subst hK;exact Yg4 hc h hn hst
structure Bz (mg:Str→Option Value):Prop where
 zip:mg "zip" = none
 enumerate:mg "enumerate" = none
end L2
namespace HT
open PySem PyProof.Rows
section
open PySem.SeqAt
open PySem.AutoSeq1 (wpAny_loadPart')
open PySem.MeetsSeq PySem.MeetsSeq2 PySem.MeetsSeq3
theorem IntsAre.at':∀{vs:List Value}{ns:List Int},IntsAre vs ns→∀{i:Nat} (h:i<vs.length),∃(z:Int) (t:Tok),vs[i]=.int z t∧ns.drop i=z::ns.drop (i+1)
 | _,_,.cons n t r,0,_=>⟨n,t,rfl,rfl⟩
 | _,_,.cons n t r,i+1,h=>by
  obtain⟨z,u,e1,e2⟩:=IntsAre.at' r (i:=i) (by simpa using h)
  exact⟨z,u,by simpa using e1,by simpa using e2⟩
end
end HT
namespace L2
open PySem PySem.Spec PyProof.Rows
section
variable {X:Cx}
end
end L2
namespace L2
open PySem PySem.Spec PyProof.Rows
abbrev bmV:List Value:=[.type "ValueError",.type "Exception",.type "BaseException",.type "object"]
abbrev Yf3 (K:PySem.W.Frag) (C:Addr):Prop:=PySem.W.excIn K C bmV "ValueError.__new__" = true
structure Flies (P:Program) (w:World) (outer:List Env) (H:Hp) (s:Shared) (a C:Addr) (a0:Value) (B:Heap) (H':Hp) (s':Shared):Prop where
 os:s'.os=s.os
 bare:AllBare s'.gens
 un:Un (frs outer) [] H H' s.heap s'.heap
 hok:HOk P w H' s'.heap
 fl:Heap.FlyingW B outer a (.ref C) a0 s'.heap
 cov:∀b o,s.heap.get? b=some o→b∉frs outer→∃o',B.get? b=some o'∧(H b=none→o'=o)
 cov2:∀b,H' b≠none→∃o,B.get? b=some o
 new:s.heap.get? a=none
section
variable {P:Program}{w:World}{K:PySem.W.Frag}{mg:Str→Option Value}{base:Heap}{N:List Str}{qual:Str}{scope:Scope}{f:Addr}{cd:Value}{A:Around}{outer:List Env}{s0:Shared}{H0:Hp}{E:XK}
end
section
variable {P:Program}{w:World}{K:PySem.W.Frag}{mg:Str→Option Value}{base:Heap}
end
section
variable {X:Cx}{j k:Nat}{ps:List Str}{sp:Sp}{x:Str}{p pos:Pos}{e:Expr}{es:List Expr}{t:TA}{EE:St→XK}
end
end L2
namespace L2
open PySem PySem.Spec PyProof.Rows
abbrev Cx.pinned (X:Cx) (pn:List (Addr×Obj)):Cx:={ X with pn:=pn }
end L2
namespace L2
open PySem PySem.Spec PyProof.Rows PySem.W Builtin Builtin.ObjectAttr Builtin.Getset_descriptor
structure ExcC (K:Frag) (C:Addr):Prop where
 ex:Yf3 K C
 be:mroIn K C (.type "BaseException")=some true
 ob:mroIn K C (.type "object")=some true
 ga:findIn K (.ref C) "__getattribute__" = some (some (.builtin "BaseException.__getattribute__"))
 gn:findIn K (.ref C) "__getattr__" = some none
 cl:findIn K (.ref C) "__class__" = some (some (.builtin "object.__class__"))
 sg:specialIn K (.builtin "object.__class__") "__get__" = some (some (.builtin "getset_descriptor.__get__"))
 tk:takesIn K (.builtin "object.__class__")=some true
end L2
namespace L2
open PySem PySem.Spec PyProof.Rows
section
variable {prog:Program}{w:World}{A:Around}{I:Addr}{fp wr:List Addr}{G:Array GenState→Array GenState→Prop}{n:Nat}{P:Nat→Value→Prop}{St:Nat→Shared→Prop}{R:Result→Shared→Prop}
theorem Xy0 (W:WalksS prog w A.in1 I fp wr G n P St) (val:Nat→Int) (hval:∀i v,P i v→∃t,v=.int (val i) t) (S:Addr) (hSf:S∉fp) :
  ∀(k i:Nat) (stage:Int) (s:Shared) (tA:Tok) (c:Nat),(stage=0∨stage=2)→n-i=k→i≤n→St i s→s.heap.get? S=some { cls:=.type "list",dict:=none,data:=.seq #[.int (preSum val i) tA] c,slots:=#[] } →
  (∀s' t',Moved (S::wr) G s s'→R (.ok (.ret (.int (preSum val n) t'))) s')→codeAny (model prog w) A (.builtin "sum.loop" ⟨[.ref I,.ref S,rawInt stage,rawInt 0],[]⟩) R s:=by
 have hSw:S∉wr:=fun h=>hSf (W.sub _ h)
 have hsub:∀b∈wr,b∈S::wr:=fun b hb=>List.mem_cons_of_mem _ hb
 intro k
 induction k with
 | zero =>
  intro i stage s tA c hstg hk hi hst hS hR
  have hin:i=n:=by omega
  subst hin
  refine codeAny_builtin F.entry_sum_loop ?_
  rw[Around.under_plainId F.plain_sum_loop _]
  show wpAny _ A.in1 (seqItems? (.ref S) >>= _) _ _ s
  refine wpAny_bind (wpAny_seqItems hS rfl ?_)
  show wpAny _ A.in1 (tryCatch (pyNext (.ref I)) _ >>= _) _ _ s
  refine wpAny_bind (wpAny_tryCatch (W.done s _ _ hst fun s' hm=>?_))
  exact wpAny_pure (hR s' tA (hm.mono hsub))
 | succ k ih =>
  intro i stage s tA c hstg hk hi hst hS hR
  have hlt:i<n:=by omega
  refine codeAny_builtin F.entry_sum_loop ?_
  rw[Around.under_plainId F.plain_sum_loop _]
  show wpAny _ A.in1 (seqItems? (.ref S) >>= _) _ _ s
  refine wpAny_bind (wpAny_seqItems hS rfl ?_)
  show wpAny _ A.in1 (tryCatch (pyNext (.ref I)) _ >>= _) _ _ s
  refine wpAny_bind (wpAny_tryCatch (W.item i s _ _ hlt hst fun v s' hP hst' hm=>?_))
  obtain⟨t,rfl⟩:=hval i v hP
  have hS':=hm.heap S _ hSw hS
  have plain:∀(A':Around),A'=A.in1→wpAny (model prog w) A' (do
    match ←(holding [Value.int (val i) t] (binaryOp .Add (.int (preSum val i) tA) (.int (val i) t))).attempt with
    | .ok r=>updateSeq S (fun _=>#[r]);letGo [Value.int (preSum val i) tA,.int (val i) t];updateSeq S (fun _=>#[r]);again (.builtin "sum.loop" ⟨[.ref I,.ref S,rawInt 2,rawInt 0],[]⟩)
    | .error e=>updateSeq S (fun _=>#[]);letGo [Value.int (preSum val i) tA,.int (val i) t] [e];throw e)
    (fun fin s'=>match fin with|.done f=>R (.ok f) s'|.again c'=>c'.quiet=true∧codeAny (model prog w) A c' R s') (fun e s'=>R (.error e) s') s':=by
   rintro A' rfl
   refine wpAny_bind (wpAny_attempt (wpAny_holding (add_int ?_)))
   refine wpAny_bind (wpAny_updateSeq hS' rfl ?_)
   have hS1:=Heap.get?_update_self (Obj.mapSeq (fun _=>(#[.int (preSum val i+val i) s'.toks]:Array Value))) hS' rfl
   refine wpAny_bind (wpAny_letGo ?_)
   refine wpAny_bind (wpAny_updateSeq hS1 rfl ?_)
   refine wpAny_pure ⟨plainId_quiet F.plain_sum_loop _,ih (i+1) 2 _ s'.toks _ (.inr rfl) (by omega) hlt (W.frame _ s' _ _ hst' (by first|exact Nat.le_refl _|exact Nat.le_succ _|omega) fun b hb o e=>?_) (Heap.get?_update_self _ hS1 rfl) fun s'' t'' hm''=>?_⟩
   ·have nb:S≠b:=fun h:S=b=>hSf (by rw[h];exact hb)
    exact(Heap.get?_update_other _ _ nb).trans ((Heap.get?_update_other _ _ nb).trans e)
   ·refine hR s'' t'' (Moved.trans W.gtrans ((hm.mono hsub).then_heap (by first|exact Nat.le_refl _|exact Nat.le_succ _|omega) fun b o hb e=>?_) hm'')
    have nb:S≠b:=fun h:S=b=>hb (by rw[h];exact List.mem_cons_self)
    exact(Heap.get?_update_other _ _ nb).trans ((Heap.get?_update_other _ _ nb).trans e)
  rcases hstg with rfl|rfl
  ·show wpAny _ A.in1 (if (_:Bool)=true then (mkInt (preSum val i+val i) >>= _) else _) _ _ _
   split
   ·refine wpAny_bind (wpAny_mkInt ?_)
    show wpAny _ A.in1 (updateSeq S (fun _=>#[.int (preSum val i+val i) s'.toks]) >>= _) _ _ _
    refine wpAny_bind ?_
    refine wpAny_updateSeq hS' rfl (wpAny_pure ⟨plainId_quiet F.plain_sum_loop _,ih (i+1) 0 _ s'.toks _ (.inl rfl) (by omega) hlt (W.frame _ s' _ _ hst' (by first|exact Nat.le_refl _|exact Nat.le_succ _|omega) fun b hb o e=>?_) (Heap.get?_update_self _ hS' rfl) fun s'' t'' hm''=>?_⟩)
    ·exact(Heap.get?_update_other _ _ (fun h:S=b=>hSf (by rw[h];exact hb))).trans e
    ·refine hR s'' t'' (Moved.trans W.gtrans ((hm.mono hsub).then_heap (by first|exact Nat.le_refl _|exact Nat.le_succ _|omega) fun b o hb e=>?_) hm'')
     exact(Heap.get?_update_other _ _ (fun h:S=b=>hb (by rw[h];exact List.mem_cons_self))).trans e
   ·exact wpAny_bind (wpAny_rule (plain _ rfl))
  ·exact plain _ rfl
end
section
variable {prog:Program}{w:World}{A:Around}{E:Value→Shared→Prop}{s:Shared}
theorem Xy1 {x:Value}{Q:Value→Shared→Prop}
  (h:wpAny (model prog w) A.in1 (pyIter x) (fun it s₂=>∃I fp wr G n P St val,it=.ref I∧WalksS prog w A.in1 I fp wr G n P St∧St 0 s₂∧(∀b∈fp,b<s₂.heap.objs.size) ∧
   (∀i v,P i v→∃t,v=.int (val i) t)∧∀s' t',Moved wr G s₂ s'→Q (.int (preSum val n) t') s') E s) :
  wpAny (model prog w) A (call (.builtin "sum") [x]) Q E s:=by
 refine call_function_tree F.kind_sum F.plain_sum F.entry_sum (F.args_sum1 _) ?_
 unfold Builtin.«sum»
 simp only[List.length_cons,List.length_nil]
 rw[if_neg (by decide)]
 refine wpAny_bind (wpAny_of_eq (show Builtin.Builtins.bindParams "sum" ["start"] 0 { }=pure [none] from rfl) ?_)
 refine wpAny_bind (wpAny_mono h (fun it s₂ h₂=>?_) fun _ _ e=>e)
 obtain⟨I,fp,wr,G,n,P,St,val,rfl,W,hst,hfp,hval,hQ⟩:=h₂
 refine wpAny_bind (wpAny_mkInt ?_)
 refine wpAny_bind (wpAny_pure ?_)
 simp only[List.forIn_cons,List.forIn_nil]
 refine wpAny_bind (wpAny_bind (wpAny_bind (wpAny_isInstance (T := "int") (b:=false) (typeIs_int _ _ _) PySem.sub_int_str ?_)))
 simp only[Bool.false_eq_true,if_false]
 refine wpAny_pure (wpAny_bind (wpAny_bind (wpAny_isInstance (T := "int") (b:=false) (typeIs_int _ _ _) PySem.sub_int_bytes ?_)))
 simp only[Bool.false_eq_true,if_false]
 refine wpAny_pure (wpAny_bind (wpAny_bind (wpAny_isInstance (T := "int") (b:=false) (typeIs_int _ _ _) PySem.sub_int_bytearray ?_)))
 simp only[Bool.false_eq_true,if_false]
 refine wpAny_pure (wpAny_pure ?_)
 refine wpAny_bind (wpAny_newObj_type ?_)
 have hSf:s₂.heap.objs.size∉fp:=fun hm=>Nat.lt_irrefl _ (hfp _ hm)
 refine wpAny_pure ⟨plainId_quiet F.plain_sum_loop _,Xy0 W val hval s₂.heap.objs.size hSf n 0 0 _ s₂.toks 0 (.inl rfl) rfl (Nat.zero_le _)
  (W.frame 0 s₂ _ _ hst (by first|exact Nat.le_refl _|exact Nat.le_succ _|omega) fun b _ o e=>Heap.get?_push_of_some _ e) (Heap.get?_push_size _ rfl) fun s' t' hm=>?_⟩
 exact hQ s' t' (hm.drop_new (by first|exact Nat.le_refl _|exact Nat.le_succ _|omega))
end
theorem Zc2 (ns:List Int):∀k,k≤ns.length→preSum (fun i=>ns.getD i 0) k=(ns.take k).sum
 | 0,_=>by simp[preSum]
 | k+1,h=>by
  have hk:k<ns.length:=by omega
  show preSum (fun i=>ns.getD i 0) k+ns.getD k 0=_
  rw[Zc2 ns k (by omega),List.take_add_one,List.getElem?_eq_getElem hk,List.sum_append,List.getD_eq_getElem?_getD,List.getElem?_eq_getElem hk]
  simp
theorem Xr8 {X:Cx} (hc:X.calm=true):Qs0 X (.builtin "sum") (fun xs H Q=>∃(p:Addr) (ns:List Int),xs=[.ref p]∧SqT X.K H p (ns.map V.int)∧Q (.int ns.sum) H):=by
 intro pins s σ H xs us Q I r h
 obtain⟨p,ns,rfl,hq,q⟩:=h
 obtain⟨u,rfl,r1⟩:=r.one
 cases r1
 obtain⟨its,rv,pl,hz⟩:=I.tuple hq
 have hi:IntsAre its.toArray.toList ns:=Xu8 rv
 have hh:=I.ok.hd hc
 have hlt:p<s.heap.objs.size:=pl.lt
 have hln:its.toArray.size=ns.length:=by rw[←hi.length];simp
 refine Xy1 (wpAny_pyIter_tuple (show s.heap.IsTuple p its.toArray from pl) ?_)
 refine⟨s.heap.objs.size,_,_,_,its.toArray.size,_,_,fun i=>ns.getD i 0,rfl,(Walks.tuple (prog:=X.prog) (w:=X.w) (A:=X.A.in1) hh s.heap.objs.size p (Nat.ne_of_lt hlt) its.toArray).toS,?_,?_,?_,?_⟩
 ·exact⟨⟨_,Heap.get?_push_size _ rfl,rfl,rfl⟩,(show s.heap.IsTuple p its.toArray from pl).at fun o e=>Heap.get?_push_of_some _ e⟩
 ·intro b hb
  rw[Heap.size_push]
  rcases List.mem_cons.mp hb with rfl|hb
  ·exact Nat.lt_succ_self _
  ·rw[List.mem_singleton.mp hb];exact Nat.lt_succ_of_lt hlt
 ·intro i v hv
  have hil:i<its.toArray.toList.length:=by
   have:=(Array.getElem?_eq_some_iff.mp hv).1
   simpa using this
  obtain⟨z,t,e1,e2⟩:=HT.IntsAre.at' hi hil
  have hv':its.toArray.toList[i]=v:=by
   have:=(Array.getElem?_eq_some_iff.mp hv).2
   simpa using this
  refine⟨t,?_⟩
  rw[←hv',e1]
  have hin:i<ns.length:=by rw[←hi.length];exact hil
  rw[List.drop_eq_getElem_cons hin]at e2
  injection e2 with e3 _
  show Value.int z t=Value.int (ns.getD i 0) t
  rw[List.getD_eq_getElem?_getD,List.getElem?_eq_getElem hin,←e3]
  rfl
 ·intro s' t' hm
  have e:preSum (fun i=>ns.getD i 0) its.toArray.size=ns.sum:=by rw[hln,Zc2 ns _ (Nat.le_refl _),List.take_length]
  rw[e]
  have kp:∀b o,s.heap.get? b=some o→s'.heap.get? b=some o:=fun b o e=>by
   refine hm.heap b o ?_ (Heap.get?_push_of_some _ e)
   intro hmem
   rw[List.mem_singleton.mp hmem]at e
   exact absurd (Heap.lt_size e) (Nat.lt_irrefl _)
  have es:s'={ s with heap:=s'.heap,toks:=s'.toks }:=by
   have z:=Moved.eq_with hm
   exact z
  have I1:Inv X pins σ H { s with heap:=s'.heap,toks:=s'.toks }:=I.kept kp
  have I2:Inv X pins σ H s':=by rw[es];exact I1
  exact⟨.int ns.sum,H,I2,⟨t',rfl⟩,q⟩
theorem Xd4 {X:Cx} (K:PySem.W.Frag) (hc:X.calm=true) (h:X.K=K:=by rfl):Qs0 X (.builtin "sum") (fun xs H Q=>∃(p:Addr) (ns:List Int),xs=[.ref p]∧SqT K H p (ns.map V.int)∧Q (.int ns.sum) H):=by subst h;exact Xr8 hc
end L2
namespace Att
open PySem PySem.W PySem.Calls PyProof.Rows
end Att
namespace L2
open PySem PySem.Spec PyProof.Rows
end L2
namespace L2
open PySem PySem.Spec PyProof.Rows
end L2
namespace L2
open PySem PySem.Spec PyProof.Rows
section
variable {X:Cx}{pins:List (Addr×Obj)}{s:Shared}{σ:St}{H:Hp}
open Classical in
noncomputable def evD (H:Hp) (ds:List Dt) (e:Dt) (u:Value):Bool:=decide (∃(d:Dt) (b:Addr),d∈ds∧u=.ref b∧IsD H d (.ref b)∧eqD d e=true)
end
end L2
namespace RevT
open PySem PySem.Spec PyProof.Rows
section
variable {prog:Program}{w:World}{A:Around}{E:Value→Shared→Prop}{s:Shared}
end
section
variable {prog:Program}{w:World}{A:Around}{E:Value→Shared→Prop}{s:Shared}
end
end RevT
namespace L2
open PySem PySem.Spec PyProof.Rows
section
variable {X:Cx}{e:Expr}{te:TE}{p1 p2 pos pos2:Pos}
end
end L2
namespace L2
open PySem PySem.Spec PyProof.Rows Builtin.Str
section
variable {X:Cx}
end
section
variable {X:Cx}{tg:Expr}
end
end L2
namespace L2
open PySem PySem.Spec PyProof.Rows
section
variable {X:Cx}{j k:Nat}{ps:List Str}{sp:Sp}{x m:Str}{C:Addr}{p pos apos:Pos}{o e:Expr}{es:List Expr}{ta:TE}{t:TA}{E:XK}
end
end L2
namespace L2
open PySem PySem.Spec PyProof.Rows
open AutoSeq1 (wpAny_loadPart')
section
variable {prog:Program}{w:World}{A:Around}{E:Value→Shared→Prop}{s:Shared}
theorem Zl6 {it t:Addr}{i:Nat}{items:Array Value}{x:Value}{Q:Value→Shared→Prop} (hit:s.heap.IsTupleIter it t i) (ht:s.heap.IsTuple t items) (hx:items[i]?=some x)
  (hQ:∀h',h'.IsTupleIter it t (i+1)→Heap.SameBut it s.heap h'→Q x { s with heap:=h' }):wpAny (model prog w) A (Builtin.SmallTypes.nextOf (.ref it)) Q E s:=by
 obtain⟨o,ho,hc,hd⟩:=id hit
 obtain⟨ol,hol,_,nl,hdl⟩:=ht
 unfold Builtin.SmallTypes.nextOf
 refine wpAny_bind (wpAny_callSpecial?_slot (name:=Str.ofString "__next__") hit.typeIs F.slot_tuple_iterator_next
  (wpAny_call_entry F.slot_tuple_iterator_next hit.typeIs F.entry_tuple_iterator_next ?_ (F.args_tuple_iterator_next_1 _)))
 show wpAny _ _ (field (.ref it) 0 >>= _) _ _ s
 refine wpAny_bind (wpAny_field ho hd (x:=.ref t) rfl ?_)
 show wpAny _ _ (if (Value.ref t==Value.none)=true then _ else _) _ _ s
 rw[if_neg (show ¬((Value.ref t==Value.none)=true) from Bool.false_ne_true)]
 show wpAny _ _ (field (.ref it) 1 >>= _) _ _ s
 refine wpAny_bind (wpAny_field ho hd (x:=.int i 0) rfl ?_)
 show wpAny _ _ (seqItems? (.ref t) >>= _) _ _ s
 refine wpAny_bind (wpAny_seqItems hol hdl ?_)
 simp only[Int.toNat_natCast,hx]
 refine wpAny_bind (wpAny_setField ho hd (by simp) (wpAny_pure ⟨x,rfl,wpAny_pure (hQ _ ?_ (Heap.SameBut.update ..))⟩))
 exact⟨_,Heap.get?_update_self _ ho (Obj.isFreed_of_fields (Obj.data_mapFields hd _)),(Obj.cls_mapFields ..).trans hc,by
  rw[Obj.data_mapFields hd];simp[rawInt]⟩
theorem Zr5 {it t:Addr}{i:Nat}{items:Array Value}{Q:Value→Shared→Prop} (hh:A.handled=none) (hit:s.heap.IsTupleIter it t i) (ht:s.heap.IsTuple t items) (hx:items[i]?=none)
  (hE:∀h' e,Heap.ExtBut it s.heap h'→(∃o,h'.get? e=some o∧o.cls=.type "StopIteration")→E (.ref e) { s with heap:=h' }):wpAny (model prog w) A (Builtin.SmallTypes.nextOf (.ref it)) Q E s:=by
 obtain⟨o,ho,hc,hd⟩:=id hit
 obtain⟨ol,hol,_,nl,hdl⟩:=ht
 unfold Builtin.SmallTypes.nextOf
 refine wpAny_bind (wpAny_callSpecial?_slot (name:=Str.ofString "__next__") hit.typeIs F.slot_tuple_iterator_next
  (wpAny_call_entry F.slot_tuple_iterator_next hit.typeIs F.entry_tuple_iterator_next ?_ (F.args_tuple_iterator_next_1 _)))
 show wpAny _ _ (field (.ref it) 0 >>= _) _ _ s
 refine wpAny_bind (wpAny_field ho hd (x:=.ref t) rfl ?_)
 show wpAny _ _ (if (Value.ref t==Value.none)=true then _ else _) _ _ s
 rw[if_neg (show ¬((Value.ref t==Value.none)=true) from Bool.false_ne_true)]
 show wpAny _ _ (field (.ref it) 1 >>= _) _ _ s
 refine wpAny_bind (wpAny_field ho hd (x:=.int i 0) rfl ?_)
 show wpAny _ _ (seqItems? (.ref t) >>= _) _ _ s
 refine wpAny_bind (wpAny_seqItems hol hdl ?_)
 simp only[Int.toNat_natCast,hx]
 refine wpAny_bind (wpAny_rule (wpAny_bind (wpAny_setField ho hd (by simp) ?_)))
 show wpAny _ _ (newExc (.type "StopIteration") [] >>= _) _ _ _
 refine wpAny_bind ?_
 simp only[newExc,newTuple]
 refine wpAny_bind (wpAny_newObj_type ?_ (by size_fits))
 refine wpAny_bind (m:=firstArgMember _ _) (wpAny_of_eq (a:=Value.none) (by first|rfl|(simp only[firstArgMember];rfl)) ?_)
 refine wpAny_newObj_type ?_ (by size_fits)
 simp only[raiseNew]
 refine wpAny_bind (wpAny_handled ?_)
 first|rw[show A.in1.handled=none from hh]|rw[hh]
 refine wpAny_bind (wpAny_pure (wpAny_throw ?_))
 exact hE _ _ (((Heap.SameBut.update ..).extBut.push _).push _) ⟨_,Heap.get?_push_size _ rfl,rfl⟩
theorem Zc3 (hh:A.handled=none) (it t:Addr) (hne:t≠it) (items:Array Value) :
  Draws prog w A it [it,t] items.size (fun i v=>items[i]?=some v) (fun i h=>h.IsTupleIter it t i∧h.IsTuple t items) where
 live:=fun _ _ st=>let ⟨o,ho,_⟩:=st.1;⟨o,ho⟩
 frame:=fun _ _ _ st hk=>⟨st.1.at fun o e=>hk it (by simp) o e,by obtain⟨o,ho,r⟩:=st.2;exact⟨o,hk t (by simp) o ho,r⟩⟩
 item:=fun i s Q E hi st hQ=>by
  refine Zl6 st.1 st.2 (x:=items[i]) (by simp[hi]) fun h' hit' hs'=>?_
  exact hQ _ h' s.toks (by simp[hi]) ⟨hit',st.2.extBut hs'.extBut hne⟩ hs'
 done:=fun s Q E st hE=>Zr5 hh st.1 st.2 (by simp) hE
theorem Zh8 (l:Addr) (items:Array Value) (n:Nat) (dct:Option Addr) (sl:Array (Option Value)) :
  Meets (Builtin.«enumerate.__new__» ⟨[.type "enumerate",.ref l],[]⟩) (fun _ R s=>s.heap.get? l=some { cls:=.type "tuple",dict:=dct,data:=.seq items n,slots:=sl } ∧
   R (.ok (.ret (.ref (s.heap.push { cls:=.type "tuple_iterator",data:=.fields #[.ref l,.int 0 0] }).objs.size)))
    { s with heap:=(s.heap.push { cls:=.type "tuple_iterator",data:=.fields #[.ref l,.int 0 0] }).push { cls:=.type "enumerate",data:=.fields #[.none,.bool false,.ref s.heap.objs.size,rawInt 0,.none,.none] } }) :=
 .of_wp fun prog w A R s h=>by
  obtain⟨hp,g,d,tk,os⟩:=s;obtain⟨hl,h⟩:=h
  have hsub:=sub_enumerate
  have hL:Heap.IsTuple (Shared.heap ⟨hp,g,d,tk,os⟩) l items:=⟨_,hl,rfl,n,rfl⟩
  wp_walk using wpAny_loadPart' hl
  refine wpAny_stack_any fun st=>wpAny_pure ?_
  split
  ·rename_i c _ _ _ _ _
   cases (c==Value.type "enumerate")
   ·wp_walk using wpAny_loadPart' hl,wpAny_pyIter_tuple hL
    exact⟨_,rfl,h⟩
   ·wp_walk using wpAny_loadPart' hl,wpAny_pyIter_tuple hL
    exact⟨_,rfl,h⟩
  ·wp_walk using wpAny_loadPart' hl,wpAny_pyIter_tuple hL
   exact⟨_,rfl,h⟩
theorem Zh9 {l:Addr}{items:Array Value}{Q:Value→Shared→Prop} (hL:s.heap.IsTuple l items)
  (h:∀h',IsEnum h' (s.heap.objs.size+1) s.heap.objs.size 0 .none→h'.IsTupleIter s.heap.objs.size l 0→h'.objs.size=s.heap.objs.size+2 →
   (∀b o,s.heap.get? b=some o→h'.get? b=some o)→Q (.ref (s.heap.objs.size+1)) { s with heap:=h' }) :
  wpAny (model prog w) A (call (.type "enumerate") [.ref l]) Q E s:=by
 obtain⟨⟨c,dct,dt,sl⟩,hl,hc,n,hd⟩:=hL
 replace hc:c=.type "tuple" := hc
 replace hd:dt=.seq items n:=hd
 subst hc hd
 refine callType_new F.called_enumerate (by decide) (F.typeCall_enumerate_1 _) (F.newCall_enumerate_1 _) (fun obj=>F.args_object_init_2 obj _) F.entry_enumerate_new
  (Zh8 l items n dct sl) ⟨hl,?_⟩
 have hz:(s.heap.push { cls:=.type "tuple_iterator",data:=.fields #[.ref l,.int 0 0] }).objs.size=s.heap.objs.size+1:=Heap.size_push ..
 show _∧_
 rw[hz]
 have he:IsEnum ((s.heap.push { cls:=.type "tuple_iterator",data:=.fields #[.ref l,.int 0 0] }).push
   { cls:=.type "enumerate",data:=.fields #[.none,.bool false,.ref s.heap.objs.size,rawInt 0,.none,.none] }) (s.heap.objs.size+1) s.heap.objs.size 0 .none:=by
  have:=Heap.get?_push_size (s.heap.push { cls:=.type "tuple_iterator",data:=.fields #[.ref l,.int 0 0] })
   (o:={ cls:=.type "enumerate",data:=.fields #[.none,.bool false,.ref s.heap.objs.size,rawInt 0,.none,.none] }) rfl
  rw[hz]at this;exact this
 refine⟨⟨_,he,rfl⟩,h _ he ⟨_,Heap.get?_push_of_some _ (Heap.get?_push_size _ rfl),rfl,rfl⟩ (by rw[Heap.size_push,hz]) fun b o x=>Heap.get?_push_of_some _ (Heap.get?_push_of_some _ x)⟩
end
def Itet (K:PySem.W.Frag) (a:Addr):It :=
 ⟨fun i H=>∃xs x,SqT K H a xs∧xs[i]?=some x,
  fun i H v H'=>∃p x,v=.ref p∧H p=none∧H'=upd H p (.tup [.int i,x])∧∀xs,SqT K H a xs→xs[i]?=some x,
  fun i H=>∃xs,SqT K H a xs∧xs.length=i⟩
theorem Xd5 {P:Program}{w:World}{K:PySem.W.Frag}{elts:List Expr}{x1:Nat}{pos:Pos}{e it l:Addr} (hei:e≠it) (hli:l≠it) (hel:e≠l) :
  Turn P w K (.Tuple elts x1 pos) (Itet K l) [e,it] e (fun i h=>(∃old,IsEnum h e it i old)∧h.IsTupleIter it l i) where
 mem:=by simp
 obj:=fun i h st b hb=>by
  obtain⟨⟨old,h1⟩,⟨o4,e4,c4,d4⟩⟩:=st
  have hb':b=e∨b=it:=by simpa using hb
  rcases hb' with q|q<;>subst q
  ·exact⟨_,h1,fun v q=>by
    have q':Data.fields _=Data.cell v:=q
    cases q'⟩
  ·exact⟨o4,e4,fun v q=>by rw[d4]at q;cases q⟩
 keep:=fun i h h' st k=>by
  obtain⟨⟨old,h1⟩,h4⟩:=st
  exact⟨⟨old,k e (by simp) _ h1⟩,h4.at fun o q=>k it (by simp) o q⟩
 item:=by
  intro X hP hw hK hc i pins s σ H E I hf st hg
  subst hP hw hK
  obtain⟨xs,x,hq1,hx⟩:=hg
  obtain⟨its1,rv1,p1,hz1⟩:=I.tuple hq1
  obtain⟨u1,hu1,ru1⟩:=rv1.get hx
  obtain⟨⟨old,h1⟩,h4⟩:=st
  have n1:e≠s.heap.objs.size:=Nat.ne_of_lt (Heap.lt_size h1)
  have n4:it≠s.heap.objs.size:=by obtain⟨o,q,_⟩:=id h4;exact Nat.ne_of_lt (Heap.lt_size q)
  have hlt:i<its1.toArray.size:=by have:=(List.getElem?_eq_some_iff.mp hu1).1;simpa using this
  refine wpAny_pyNext_enum_itemD (Zc3 (show X.A.in1.handled=none from I.ok.hd hc) it l hli its1.toArray) h1 ⟨h4,(show s.heap.IsTuple l its1.toArray from p1)⟩ hlt hei (by simp[hei,hel]) fun x' h' tk hx' ho hit' hT hsz hk=>?_
  have hx2:x'=u1:=by
   have:its1[i]?=some x':=by simpa using hx'
   rw[hu1]at this
   exact(Option.some.inj this).symm
  subst hx2
  have I1:Inv X pins σ (upd H s.heap.objs.size (.tup [.int i,x])) { s with heap:=h',toks:=tk+1 }:=I.turnedL (t':=tk+1) (ch:=[e,it]) (fun b o hb q=>hk b o (fun z=>hb (by simp[z])) (fun z=>hb (by simp[z])) q) hf (Nat.le_refl _)
   ⟨by show 2≤sizeLine;decide,[_,x'],.cons ⟨_,rfl⟩ (.cons ru1 .nil),⟨_,hT,rfl,_,rfl⟩⟩
  have hf1:∀b∈[e,it],FpOk X pins (upd H s.heap.objs.size (.tup [.int i,x])) b:=fun b hb=>(hf b hb).upd (by
   have hb':b=e∨b=it:=by simpa using hb
   rcases hb' with q|q<;>subst q
   ·exact n1
   ·exact n4)
  refine⟨_,rfl,wpAny_letOwnedTupleGo_enum (s:={ s with heap:=h',toks:=tk+1 }) ho fun h2' he' sb=>?_⟩
  have I2:Inv X pins σ (upd H s.heap.objs.size (.tup [.int i,x])) { s with heap:=h2',toks:=tk+1 }:=I1.turnedS (s:={ s with heap:=h',toks:=tk+1 }) (t':=tk+1) (ch:=[e,it]) (fun b o hb q=>(sb.2 b fun z=>hb (by simp[z])).trans q) hf1
  exact⟨.ref s.heap.objs.size,_,I2,rfl,⟨_,x,rfl,I.hok.fresh (Nat.le_refl _),rfl,fun zs hz=>by rw[I.tuple_inj hz hq1];exact hx⟩,
   ⟨⟨_,by simpa using he'⟩,hit'.1.at fun o q=>(sb.2 _ hei.symm).trans q⟩,fun b hb=>(hf1 b hb).1⟩
 done:=by
  intro X hP hw hK hc i pins s σ H E I hf st hg
  subst hP hw hK
  obtain⟨xs,hq1,hend⟩:=hg
  obtain⟨its1,rv1,p1,hz1⟩:=I.tuple hq1
  obtain⟨⟨old,h1⟩,h4⟩:=st
  have hl1:=rv1.length
  have hi:i=its1.toArray.size:=by simp;omega
  exact wpAny_pyNext_enum_endD (Zc3 (show X.A.in1.handled=none from I.ok.hd hc) it l hli its1.toArray) h1 ⟨hi▸h4,(show s.heap.IsTuple l its1.toArray from p1)⟩ fun h' eb=>⟨rfl,I.turnedS (t':=s.toks) (ch:=[e,it]) (fun b o hb q=>eb b o (fun z=>hb (by simp[z])) q) hf⟩
 self:=fun _ _ _ _ _ st h=>by
  obtain⟨⟨old,h1⟩,_⟩:=st
  exact wpAny_pyIter_enum h1 h
section
variable {X:Cx}{elts:List Expr}{x1:Nat}{pos:Pos}
def Yh8 (K:PySem.W.Frag) (ta:TA):TI:=fun σ H R=>ta σ H fun vs H1=>∃a,vs=[.ref a]∧(∃xs,SqT K H1 a xs)∧R (Itet K a) H1
theorem Xz6 (K:PySem.W.Frag) {a:Expr}{ta:TA}{p q:Pos} (hg:Gl X "enumerate") (hm:X.mg "enumerate" = none) (ha:PA X [a] ta) (hK:X.K=K:=by rfl) (hs:starEach [a] X.env=[(false,eval a X.env)]:=by rfl) :
  PI X (.Tuple elts x1 pos) (.Call (.Name "enumerate" p) [a] [] q) (Yh8 K ta):=by
 subst hK
 intro pins s σ H R I h
 refine Call_ (Qt4 I hg hm Xw9 (PyProof.Rows.callWith_type1 (thn (ha q pins s σ H _ I h) fun us s1 ⟨vs,H1,I1,r1,q1⟩=>?_) hs rfl))
 obtain⟨l1,e,⟨xs,hx⟩,q⟩:=q1
 subst e
 cases r1 with
 | cons r rr =>
  cases rr
  cases r
  obtain⟨its1,rv1,p1,hz1⟩:=I1.tuple hx
  have p1':s1.heap.IsTuple l1 its1.toArray:=p1
  have n1:@LT.lt Nat _ l1 s1.heap.objs.size:=by obtain⟨o,e,_⟩:=id p1';exact Heap.lt_size e
  refine Zh9 p1' fun h' a1 a2 a3 a4=>?_
  refine wpAny_pyIter_enum (s:={ s1 with heap:=h' }) a1 ?_
  have I2:Inv X pins σ H1 { s1 with heap:=h' }:=I1.kept (t':=s1.toks) a4
  refine⟨_,_,_,_,H1,rfl,I2,Xd5 (by show (_:Nat)≠(_:Nat);omega) (Nat.ne_of_lt n1) (Nat.ne_of_gt (Nat.lt_succ_of_lt n1)),⟨⟨_,a1⟩,a2⟩,fun b hb=>?_,q⟩
  have hb':b=s1.heap.objs.size+1∨b=s1.heap.objs.size:=by simpa using hb
  have hb2:s1.heap.objs.size≤b:=by rcases hb' with q|q<;>rw[q]<;>first|exact Nat.le_refl _|exact Nat.le_add_right _ _
  exact I1.fpOk hb2 (I1.hok.fresh hb2)
end
end L2
namespace L2
open PySem PySem.Spec PyProof.Rows
theorem Zm1 {K:PySem.W.Frag}{a:Addr}{xs:List V}{g:TG}{tb:TS}{D:Ends}{σ:St}{H:Hp} (Pv:Nat→St→Hp→Prop) (h0:Pv 0 σ H) (hl:∀i σ H,i≤xs.length→Pv i σ H→SqL K H a xs)
  (hs:∀Pw:Nat→St→Hp→Prop,(∀i σ H,Pv i σ H→Pw i σ H)→∀i x σ H,xs[i]?=some x→Pv i σ H→g x σ H fun σ2 H2=>tb { D with nx:=Pw (i+1),ct:=Pw (i+1),bk:=D.nx } σ2 H2) (hd:∀σ H,Pv xs.length σ H→D.nx σ H) :
  ∃W:Nat→Nat→St→Hp→Prop,(∃m,W 0 m σ H)∧∀i m σ H,W i m σ H →
   ((Itl K a).stop i H∧D.nx σ H)∨((Itl K a).go i H∧∃N:St→Hp→Prop,(∀σ' H',N σ' H'→∃m',m'<m∧W (i+1) m' σ' H')∧∀x H',(Itl K a).yld i H x H'→g x σ H' fun σ2 H2=>tb { D with nx:=N,ct:=N,bk:=D.nx } σ2 H2):=Zc9 Pv h0 hl (hs Pv fun _ _ _ q=>q) hd
theorem Xo2 {K:PySem.W.Frag}{a:Addr}{xs:List V}{g:TG}{tb:TS}{D:Ends}{σ:St}{H:Hp} (Pv:Nat→St→Hp→Prop) (h0:Pv 0 σ H) (hl:∀i σ H,i≤xs.length→Pv i σ H→SqT K H a xs)
  (hs:∀Pw:Nat→St→Hp→Prop,(∀i σ H,Pv i σ H→Pw i σ H)→∀i x σ H,xs[i]?=some x→Pv i σ H→g x σ H fun σ2 H2=>tb { D with nx:=Pw (i+1),ct:=Pw (i+1),bk:=D.nx } σ2 H2) (hd:∀σ H,Pv xs.length σ H→D.nx σ H) :
  ∃W:Nat→Nat→St→Hp→Prop,(∃m,W 0 m σ H)∧∀i m σ H,W i m σ H →
   ((Itt K a).stop i H∧D.nx σ H)∨((Itt K a).go i H∧∃N:St→Hp→Prop,(∀σ' H',N σ' H'→∃m',m'<m∧W (i+1) m' σ' H')∧∀x H',(Itt K a).yld i H x H'→g x σ H' fun σ2 H2=>tb { D with nx:=N,ct:=N,bk:=D.nx } σ2 H2):=Yj3 Pv h0 hl (hs Pv fun _ _ _ q=>q) hd
theorem Qn0 {lo:Int}{n:Nat}{g:TG}{tb:TS}{D:Ends}{σ:St}{H:Hp} (Pv:Nat→St→Hp→Prop) (h0:Pv 0 σ H)
  (hs:∀Pw:Nat→St→Hp→Prop,(∀i σ H,Pv i σ H→Pw i σ H)→∀i σ H,i<n→Pv i σ H→g (.int (lo+i)) σ H fun σ2 H2=>tb { D with nx:=Pw (i+1),ct:=Pw (i+1),bk:=D.nx } σ2 H2) (hd:∀σ H,Pv n σ H→D.nx σ H) :
  ∃W:Nat→Nat→St→Hp→Prop,(∃m,W 0 m σ H)∧∀i m σ H,W i m σ H →
   ((Itr lo n).stop i H∧D.nx σ H)∨((Itr lo n).go i H∧∃N:St→Hp→Prop,(∀σ' H',N σ' H'→∃m',m'<m∧W (i+1) m' σ' H')∧∀x H',(Itr lo n).yld i H x H'→g x σ H' fun σ2 H2=>tb { D with nx:=N,ct:=N,bk:=D.nx } σ2 H2):=Zw1 Pv h0  (hs Pv fun _ _ _ q=>q) hd
theorem Yx7 {t u:TS}{D:Ends}{σ:St}{H:Hp} (J:St→Hp→Prop) (h1:∀N:St→Hp→Prop,(∀σ H,J σ H→N σ H)→t { D with nx:=N } σ H) (h2:∀σ' H',J σ' H'→u D σ' H'):Yx6 t u D σ H:=⟨J,h1 J fun _ _ q=>q,h2⟩
theorem whN {W:Nat→St→Hp→Prop}{m:Nat}{tb:TS}{D:Ends}{σ:St}{H:Hp} (h:∀N:St→Hp→Prop,(∀m' σ' H',m'<m→W m' σ' H'→N σ' H')→tb { D with nx:=N,ct:=N,bk:=D.nx } σ H) :
  ∃N:St→Hp→Prop,(∀σ' H',N σ' H'→∃m',m'<m∧W m' σ' H')∧tb { D with nx:=N,ct:=N,bk:=D.nx } σ H :=
 ⟨fun σ' H'=>∃m',m'<m∧W m' σ' H',fun _ _ q=>q,h _ fun m' _ _ a b=>⟨m',a,b⟩⟩
end L2
namespace L2
open PySem PySem.Spec PyProof.Rows
section
variable {prog:Program}{w:World}{A:Around}{E:Value→Shared→Prop}{s:Shared}
structure WBase (a₀:Array Keyed) (st:SortSt):Prop where
 perm:(arrOf st).Perm a₀
 kind:∃b,kindOf st=tuples' b
 failed:failedOf st=none
 pend:pendingOf st=#[]
section
variable {a₀:Array Keyed}
end
end
section
variable {X:Cx}
end
end L2
namespace L2
open PySem PySem.Spec PyProof.Rows
section
variable {prog:Program}{w:World}{A:Around}{R:Result→Shared→Prop}{s:Shared}
end
structure FliesH (P:Program) (w:World) (outer:List Env) (H:Hp) (s:Shared) (a C:Addr) (a0:Value) (L:Addr) (B:Heap) (H':Hp) (s':Shared):Prop where
 os:s'.os=s.os
 bare:AllBare s'.gens
 un:Un (frs outer) [] H H' s.heap s'.heap
 hok:HOk P w H' s'.heap
 fl:Heap.HeldW B outer a (.ref C) a0 L s'.heap
 cov:∀b o,s.heap.get? b=some o→b∉frs outer→∃o',B.get? b=some o'∧(H b=none→o'=o)
 cov2:∀b,H' b≠none→∃o,B.get? b=some o
 new:s.heap.get? a=none
section
variable {P:Program}{w:World}{K:PySem.W.Frag}{mg:Str→Option Value}{base:Heap}{N:List Str}{qual:Str}{scope:Scope}{f:Addr}{cd:Value}{A:Around}{outer:List Env}{s0:Shared}{H0:Hp}{E:XK}
end
section
variable {X:Cx}{pins:List (Addr×Obj)}{σ:St}{H2:Hp}{s2:Shared}{scope:Scope}{T:List Str}{js:List Nat}
end
end L2
namespace L2
open PySem PySem.Spec PyProof.Rows Builtin.Str
section
variable {X:Cx}
end
end L2
namespace L2
open PySem PySem.Spec PyProof.Rows
def Itv (K:PySem.W.Frag) (a:Addr) (n:Nat):It :=
 ⟨fun i H=>∃xs x,SqL K H a xs∧xs.length=n∧i<n∧xs[n-1-i]?=some x,fun i H x H'=>H'=H∧∀xs,SqL K H a xs→xs[n-1-i]?=some x,fun i _=>n≤i⟩
theorem Xo3 {P:Program}{w:World}{K:PySem.W.Frag}{tg:Expr} (a it:Addr) (n:Nat):Turn P w K tg (Itv K a n) [it] it (fun i h=>i≤n∧h.IsRevIter it a ((n:Int)-1-(i:Int))) where
 mem:=by simp
 obj:=fun i h st b hb=>by
  have e:b=it:=by simpa using hb
  subst e
  obtain⟨_,o,e,c,d⟩:=st
  exact⟨o,e,fun v z=>by rw[d]at z;cases z⟩
 keep:=fun i h h' st k=>⟨st.1,st.2.at fun o e=>k it (by simp) o e⟩
 item:=by
  intro X hP hw hK hc i pins s σ H E I hf st hg
  subst hP hw hK
  obtain⟨xs,x,hq,hn,hi,hx⟩:=hg
  obtain⟨its,rv,p,hz⟩:=I.list hq
  obtain⟨u,hu,ru⟩:=rv.get hx
  obtain⟨f0,f1,f2,f3,f4,f5⟩:=hf it (by simp)
  have st2:=st.2
  rw[show (n:Int)-1-(i:Int)=((n-1-i:Nat):Int) by omega]at st2
  refine wpAny_pyNext_rev_item st2 p.isList (x:=u) (by simpa using hu) fun h' st' sb=>?_
  have I1:Inv X pins σ H { s with heap:=h' }:=I.turned (t':=s.toks) (fun b o hb e=>(sb.2 b hb).trans e) f0 f1 f3 f4 f5
  rw[show ((n-1-i:Nat):Int)-1=(n:Int)-1-((i+1:Nat):Int) by omega]at st'
  obtain⟨o,e,c,d⟩:=id st'
  exact⟨u,rfl,Xk7 (s:={ s with heap:=h' }) e c d (by decide) ⟨x,H,I1,ru,⟨rfl,fun ys hy=>by rw[I.list_inj hy hq];exact hx⟩,⟨hi,st'⟩,fun b hb=>(hf b hb).1⟩⟩
 done:=by
  intro X hP hw hK hc i pins s σ H E I hf st hg
  subst hP hw hK
  obtain⟨f0,f1,f2,f3,f4,f5⟩:=hf it (by simp)
  have hg':n≤i:=hg
  have st2:=st.2
  have h1:=st.1
  rw[show (n:Int)-1-(i:Int) = -1 by omega]at st2
  exact wpAny_pyNext_rev_end (I.ok.hd hc) st2 fun h' eb=>⟨rfl,I.turned (t':=s.toks) (fun b o hb e=>eb b o hb e) f0 f1 f3 f4 f5⟩
 self:=fun _ _ _ _ _ st h=>wpAny_pyIter_revIter st.2 h
section
variable {X:Cx}{tg:Expr}
def iRev (K:PySem.W.Frag) (ta:TA):TI:=fun σ H R=>ta σ H fun vs H1=>∃a xs,vs=[.ref a]∧SqL K H1 a xs∧R (Itv K a xs.length) H1
theorem Yv1 (K:PySem.W.Frag) {a:Expr}{ta:TA}{p q:Pos} (hg:Gl X "reversed") (hm:X.mg "reversed" = none) (ha:PA X [a] ta) (hK:X.K=K:=by rfl) (hs:starEach [a] X.env=[(false,eval a X.env)]:=by rfl) :
  PI X tg (.Call (.Name "reversed" p) [a] [] q) (iRev K ta):=by
 subst hK
 intro pins s σ H R I h
 refine Call_ (Qt4 I hg hm boot_reversed (PyProof.Rows.callWith_type1 (thn (ha q pins s σ H _ I h) fun us s1 ⟨vs,H1,I1,r1,q1⟩=>?_) hs rfl))
 obtain⟨l1,xs,e,hx,q⟩:=q1
 subst e
 cases r1 with
 | cons r rr =>
  cases rr
  cases r
  obtain⟨its1,rv1,p1,hz1⟩:=I1.list hx
  refine call_reversed_list p1.isList ?_
  have hsz:its1.toArray.size=xs.length:=by rw[List.size_toArray];exact rv1.length.symm
  rw[hsz]
  have hn:(s1.heap.push (revObj l1 ((xs.length:Int)-1))).IsRevIter s1.heap.objs.size l1 ((xs.length:Int)-1-((0:Nat):Int)):=⟨_,Heap.get?_push_size _ rfl,rfl,by
   show Data.fields _=Data.fields _
   rw[show (xs.length:Int)-1-((0:Nat):Int)=(xs.length:Int)-1 by omega]⟩
  refine wpAny_pyIter_revIter (s:={ s1 with heap:=s1.heap.push (revObj l1 ((xs.length:Int)-1)) }) hn ?_
  refine⟨s1.heap.objs.size,[s1.heap.objs.size],_,_,H1,rfl,I1.kept (t':=s1.toks) fun b o e=>Heap.get?_push_of_some _ e,Xo3 l1 _ xs.length,⟨Nat.zero_le _,hn⟩,fun b hb=>?_,q⟩
  have e:b=s1.heap.objs.size:=by simpa using hb
  subst e
  exact I1.fpOk (Nat.le_refl _) (I1.hok.fresh (Nat.le_refl _))
end
theorem Yv2 {K:PySem.W.Frag}{a:Addr}{xs:List V}{g:TG}{tb:TS}{D:Ends}{σ:St}{H:Hp} (Pv:Nat→St→Hp→Prop) (h0:Pv 0 σ H) (hl:∀i σ H,i≤xs.length→Pv i σ H→SqL K H a xs)
  (hs:∀Pw:Nat→St→Hp→Prop,(∀i σ H,Pv i σ H→Pw i σ H)→∀i x σ H,i<xs.length→xs[xs.length-1-i]?=some x→Pv i σ H→g x σ H fun σ2 H2=>tb { D with nx:=Pw (i+1),ct:=Pw (i+1),bk:=D.nx } σ2 H2) (hd:∀σ H,Pv xs.length σ H→D.nx σ H) :
  ∃W:Nat→Nat→St→Hp→Prop,(∃m,W 0 m σ H)∧∀i m σ H,W i m σ H →
   ((Itv K a xs.length).stop i H∧D.nx σ H)∨((Itv K a xs.length).go i H∧∃N:St→Hp→Prop,(∀σ' H',N σ' H'→∃m',m'<m∧W (i+1) m' σ' H')∧∀x H',(Itv K a xs.length).yld i H x H'→g x σ H' fun σ2 H2=>tb { D with nx:=N,ct:=N,bk:=D.nx } σ2 H2):=by
 refine⟨fun i m σ H=>m=xs.length-i∧i≤xs.length∧Pv i σ H,⟨xs.length,by simp,Nat.zero_le _,h0⟩,?_⟩
 rintro i m σ H ⟨rfl,hi,p⟩
 have q:=hl i σ H hi p
 by_cases hlt:i<xs.length
 ·refine .inr ⟨⟨xs,_,q,rfl,hlt,List.getElem?_eq_getElem (by omega)⟩,Pv (i+1),fun σ' H' p'=>⟨xs.length-(i+1),by omega,rfl,hlt,p'⟩,fun x H' y=>?_⟩
  obtain⟨e,y⟩:=y
  subst e
  exact hs Pv (fun _ _ _ q=>q) i x σ _ hlt (y xs q) p
 ·have e:i=xs.length:=by omega
  subst e
  exact .inl ⟨Nat.le_refl _,hd σ H p⟩
end L2
namespace L2
open PySem PySem.Spec PyProof.Rows
end L2
namespace L2
open PySem PySem.Spec PyProof.Rows
section
variable (P:Program) (w:World)
end
section
variable {P:Program}{w:World}{H H':Hp}{h h':Heap}{a:Addr}{o:HO}
end
section
variable {P:Program}{w:World}{H:Hp}{h h':Heap}{x e:Addr}{o':HO}
end
section
variable {fs fs' ex ex':List Addr}{H H1 H2:Hp}{h h1 h2 h':Heap}{a x e:Addr}{o:HO}
end
end L2
namespace L2
open PySem PySem.Spec PyProof.Rows
section
variable {X:Cx}{pins:List (Addr×Obj)}{σ:List (Option V)}{H H':Hp}{s:Shared}{h':Heap}
end
end L2
namespace L2
open PySem PySem.Spec PyProof.Rows
section
variable {X:Cx}
variable {a b:Expr}{ta tb:TE}{pos:Pos}
variable {tA tB':TT}{rest:List Expr}
end
end L2
namespace L2
open PySem PySem.Spec PyProof.Rows
section
variable {X:Cx}{pins:List (Addr×Obj)}{σ:St}{H:Hp}{s:Shared}{a:Addr}{xs ys:List V}
end
section
variable {X:Cx}{pins:List (Addr×Obj)}{σ:St}{H:Hp}{s:Shared}{E:Value→Shared→Prop}
end
section
variable {X:Cx}{st:Stmt}{rest:List Stmt}{t u:TS}{e:Expr}{te:TE}{pos:Pos}
end
section
variable {X:Cx}{pos:Pos}
end
section
variable {X:Cx}{pos:Pos}
end
end L2
namespace L2
open PySem PySem.Spec PyProof.Rows
section
variable {X:Cx}{tg:Expr}
end
end L2
namespace L2
open PySem PySem.Spec PyProof.Rows
section
variable {X:Cx}{a b c:Expr}{ta tb tc:TE}{pos:Pos}
end
section
variable {X:Cx}{a b c:Expr}{ta tb tc:TE}{pos:Pos}
end
end L2
namespace L2
open PySem PySem.Spec PyProof.Rows
section
variable {prog:Program}{w:World}{A:Around}{E:Value→Shared→Prop}{s:Shared}{K:PySem.W.Frag}{x dx C f:Addr}{mA:Str→Option Value}{name:Str}{v:Value}
end
section
variable {P:Program}{w:World}{H H':Hp}{h h':Heap}{a C dx:Addr}{fs fs':List (Str×V)}
end
section
variable {X:Cx}{pins:List (Addr×Obj)}{σ:St}{H:Hp}{s:Shared}{a C dx:Addr}{fs:List (Str×V)}{f:Str}{v:V}{A:Around}{E:Value→Shared→Prop}
end
section
variable {X:Cx}{o e value:Expr}{f:Str}{pos pos' tpos:Pos}{ta tv:TE}
end
section
variable {X:Cx}{pins:List (Addr×Obj)}{σ:St}{H:Hp}{s:Shared}{A:Around}{E:Value→Shared→Prop}{Q:Value→Shared→Prop}{c:Value}{b:Bool}
end
end L2
namespace L2
open PySem PySem.Spec PyProof.Rows
section
variable {X:Cx}{e:Expr}{es:List Expr}{te:TE}{t:TA}{pos:Pos}
end
section
variable {X:Cx}{pins:List (Addr×Obj)}{σ:St}{H:Hp}{s s':Shared}
end
section
variable {X:Cx}{CX:CXT}{k:Nat}{f C:Addr}{fd:FuncData}{ps:List Str}{sp:Sp}{dvs:List V}{ds:List Value}{E:XK}{x m:Str}{p pos apos:Pos}{e o:Expr}{es:List Expr}{ta:TE}{t:TA}
end
section
variable {X:Cx}{CX:CXT}{k:Nat}{f C:Addr}{fd:FuncData}{ps ks:List Str}{sp:Sp}{E:XK}{x m:Str}{p pos apos kpos:Pos}{e o:Expr}{es:List Expr}{kws:List Keyword}{te ta:TE}{t tk:TA}{nm:Option Str}
variable {g:List Value→List Value→List Value}{gV:List V→List V→List V}
end
end L2
namespace L2
open PySem PySem.Spec PyProof.Rows
section
variable {X:Cx}{x:Str}{p pos:Pos}{e:Expr}{es:List Expr}{t:TA}{id T:String}{r:List V→Hp→VK→Prop}
end
end L2
namespace L2
open PySem PySem.Spec PyProof.Rows
section
variable {κ:Type} [DecidableEq κ]
def valV (kvs:List (κ×V)) (k:κ):Option V:=(kvs.find? fun kv=>decide (kv.1=k)).map (·.2)
def putK (kvs:List (κ×V)) (k:κ) (v:V):List (κ×V) :=
 if (kvs.any fun kv=>decide (kv.1=k))=true then kvs.map (fun kv=>if kv.1=k then (kv.1,v) else kv) else kvs++[(k,v)]
theorem Qu1 {p:κ×V}{r:List (κ×V)}{k:κ} (e:p.1=k):valV (p::r) k=some p.2:=by simp[valV,List.find?_cons,e]
theorem Qu2 {p:κ×V}{r:List (κ×V)}{k:κ} (e:¬p.1=k):valV (p::r) k=valV r k:=by simp[valV,List.find?_cons,e]
theorem Qo2 (k:κ):∀kvs:List (κ×V),(kvs.any fun kv=>decide (kv.1=k))=(valV kvs k).isSome
 | []=>rfl
 | p::r=>by
  rw[List.any_cons]
  by_cases e:p.1=k
  ·simp only[Qu1 e,decide_eq_true e,Bool.true_or,Option.isSome_some]
  ·rw[Qu2 e,decide_eq_false e,Bool.false_or];exact Qo2 k r
theorem Xy2 (k j:κ) (y:V):∀kvs:List (κ×V),valV (kvs.map fun kv=>if kv.1=k then (kv.1,y) else kv) j=(valV kvs j).map fun x=>if j=k then y else x
 | []=>rfl
 | p::r=>by
  have ih:=Xy2 k j y r
  rw[List.map_cons]
  by_cases h:p.1=k
  ·rw[if_pos h]
   by_cases e:p.1=j
   ·rw[Qu1 (p:=(p.1,y)) e,Qu1 e,Option.map_some,if_pos (e.symm.trans h)]
   ·rw[Qu2 (p:=(p.1,y)) e,Qu2 e,ih]
  ·rw[if_neg h]
   by_cases e:p.1=j
   ·rw[Qu1 (p:=p) e,Qu1 e,Option.map_some,if_neg (fun z=>h (e.trans z))]
   ·rw[Qu2 (p:=p) e,Qu2 e,ih]
theorem Xz7 (k j:κ) (y:V):∀kvs:List (κ×V),valV kvs k=none→valV (kvs++[(k,y)]) j=if j=k then some y else valV kvs j
 | [],_=>by
  by_cases e:k=j
  ·rw[if_pos e.symm];exact Qu1 (p:=(k,y)) e
  ·rw[if_neg (fun z=>e z.symm)];exact Qu2 (p:=(k,y)) e
 | p::r,hn=>by
  rw[List.cons_append]
  have hk:¬p.1=k:=fun z=>by rw[Qu1 z]at hn;cases hn
  rw[Qu2 hk]at hn
  have ih:=Xz7 k j y r hn
  by_cases e:p.1=j
  ·rw[Qu1 e,Qu1 e,if_neg (fun z=>hk (e.trans z))]
  ·rw[Qu2 e,Qu2 e,ih]
theorem Zr6 (kvs:List (κ×V)) (k j:κ) (y:V):valV (putK kvs k y) j=if j=k then some y else valV kvs j:=by
 unfold putK
 by_cases a:(kvs.any fun kv=>decide (kv.1=k))=true
 ·rw[if_pos a,Xy2]
  rw[Qo2]at a
  by_cases e:j=k
  ·obtain⟨x,hx⟩:=Option.isSome_iff_exists.mp a
   rw[if_pos e,e,hx,Option.map_some,if_pos rfl]
  ·rw[if_neg e]
   cases valV kvs j with
   | none=>rfl
   | some x=>rw[Option.map_some,if_neg e]
 ·rw[if_neg a]
  refine Xz7 k j y kvs ?_
  rw[Qo2]at a
  cases q:valV kvs k with
  | none=>rfl
  | some x=>rw[q]at a;exact(a rfl).elim
theorem Zy0 (kvs:List (κ×V)) (k:κ) (v:V):(putK kvs k v).length≤kvs.length+1:=by
 unfold putK
 split
 ·rw[List.length_map];omega
 ·rw[List.length_append,List.length_cons,List.length_nil];omega
theorem Zr7 {kvs:List (κ×V)}{k:κ} (v:V) (h:valV kvs k=none):putK kvs k v=kvs++[(k,v)]:=by
 unfold putK
 rw[Qo2,h]
 exact if_neg (by decide)
theorem RelO.isSome_eq {o:Option V}{u:Option Value} (r:RelO o u):o.isSome=u.isSome:=by
 cases o with
 | none=>cases u with
  | none=>rfl
  | some _=>exact(show False from r).elim
 | some _=>cases u with
  | none=>exact(show False from r).elim
  | some _=>rfl
theorem KV.val {kvs:List (κ×V)}{vs:List (κ×Value)} (r:KV kvs vs) (k:κ):RelO (valV kvs k) (valueAt vs k):=by
 unfold KV at r
 induction r with
 | nil=>exact True.intro
 | @cons p q ps qs h t ih =>
  obtain⟨h1,h2⟩:=h
  by_cases e:p.1=k
  ·have e':q.1=k:=h1.symm.trans e
   have b:valueAt (q::qs) k=some q.2:=by simp[valueAt,List.find?_cons,e']
   rw[Qu1 e,b];exact h2
  ·have e':¬q.1=k:=fun z=>e (h1.trans z)
   have b:valueAt (q::qs) k=valueAt qs k:=by simp[valueAt,List.find?_cons,e']
   rw[Qu2 e,b];exact ih
theorem KV.any {kvs:List (κ×V)}{vs:List (κ×Value)} (r:KV kvs vs) (k:κ):(kvs.any fun kv=>decide (kv.1=k))=vs.any fun kv=>decide (kv.1=k):=by
 unfold KV at r
 induction r with
 | nil=>rfl
 | cons h t ih=>rw[List.any_cons,List.any_cons,ih,h.1]
theorem KV.repl {kvs:List (κ×V)}{vs:List (κ×Value)} (r:KV kvs vs) (k:κ) {y:V}{u:Value} (ry:RelV y u) :
  KV (kvs.map fun kv=>if kv.1=k then (kv.1,y) else kv) (vs.map fun kv=>if kv.1=k then (kv.1,u) else kv):=by
 unfold KV at r ⊢
 induction r with
 | nil=>exact .nil
 | @cons p q ps qs h t ih =>
  rw[List.map_cons,List.map_cons]
  refine .cons ?_ ih
  obtain⟨h1,h2⟩:=h
  by_cases e:p.1=k
  ·rw[if_pos e,if_pos (h1.symm.trans e)];exact⟨h1,ry⟩
  ·rw[if_neg e,if_neg (fun z=>e (h1.trans z))];exact⟨h1,h2⟩
theorem KV.put {kvs:List (κ×V)}{vs:List (κ×Value)} (r:KV kvs vs) (k:κ) {y:V}{u:Value} (ry:RelV y u):KV (putK kvs k y) (stored vs k u):=by
 unfold putK stored
 rw[r.any k]
 by_cases e:(vs.any fun kv=>decide (kv.1=k))=true
 ·rw[if_pos e,if_pos e];exact r.repl k ry
 ·rw[if_neg e,if_neg e];exact Paired.snoc r ⟨rfl,ry⟩
theorem KV.length {kvs:List (κ×V)}{vs:List (κ×Value)} (r:KV kvs vs):kvs.length=vs.length:=Paired.length r
end
theorem Zi9 {P:Program}{w:World}{k:Key}{u:Value} (r:RelV (kV k) u):(Qm3 P w).is k u=true:=by
 cases k with
 | inl i=>obtain⟨t,e⟩:=(show ∃t,u=Value.int i t from r);subst e;exact Xb1 P w i t
 | inr x=>obtain⟨t,e⟩:=(show ∃t,u=Value.str x t from r);subst e;exact Xb2 P w x t
theorem Xz8 {P:Program}{w:World}:∀{ks:List Key}{us:List Value},Vals (ks.map kV) us→ItemsAre (Qm3 P w) ks us
 | [],_,r=>by rw[List.map_nil]at r;cases r;exact .nil
 | k::ks,_,r=>by
  rw[List.map_cons]at r
  cases r with
  | cons h t=>exact .cons (Zi9 h) (Xz8 t)
abbrev KT (H:Hp):List (List Key×V)→List (List Key×Addr×Value)→Prop:=Paired fun p q=>p.1=q.1∧H q.2.1=some (.tup (p.1.map kV))∧RelV p.2 q.2.2
theorem KT.val {H:Hp}{kvs:List (List Key×V)}{xs:List (List Key×Addr×Value)} (r:KT H kvs xs) (k:List Key):RelO (valV kvs k) ((atKey xs k).map (·.2)):=by
 induction r with
 | nil=>exact True.intro
 | @cons p q ps qs h t ih =>
  obtain⟨h1,_,h2⟩:=h
  by_cases e:p.1=k
  ·have e':q.1=k:=h1.symm.trans e
   have b:atKey (q::qs) k=some q.2:=by simp[atKey,List.find?_cons,e']
   rw[Qu1 e,b];exact h2
  ·have e':¬q.1=k:=fun z=>e (h1.trans z)
   have b:atKey (q::qs) k=atKey qs k:=by simp[atKey,List.find?_cons,e']
   rw[Qu2 e,b];exact ih
theorem KT.repl {H:Hp}{kvs:List (List Key×V)}{xs:List (List Key×Addr×Value)} (r:KT H kvs xs) (k:List Key) {y:V}{u:Value} (ry:RelV y u) :
  KT H (kvs.map fun kv=>if kv.1=k then (kv.1,y) else kv) (xs.map (putAt k u)):=by
 induction r with
 | nil=>exact .nil
 | @cons p q ps qs h t ih =>
  rw[List.map_cons,List.map_cons]
  refine .cons ?_ ih
  obtain⟨h1,h2,h3⟩:=h
  unfold putAt
  by_cases e:p.1=k
  ·rw[if_pos e,if_pos (h1.symm.trans e)];exact⟨h1,h2,ry⟩
  ·rw[if_neg e,if_neg (fun z=>e (h1.trans z))];exact⟨h1,h2,h3⟩
theorem KT.put {H:Hp}{kvs:List (List Key×V)}{xs:List (List Key×Addr×Value)} (r:KT H kvs xs) (k:List Key) {b:Addr}{y:V}{u:Value} (hb:H b=some (.tup (k.map kV))) (ry:RelV y u) :
  KT H (putK kvs k y) (storedH xs k b u):=by
 have e:(kvs.any fun kv=>decide (kv.1=k))=(atKey xs k).isSome:=by
  rw[Qo2,(r.val k).isSome_eq,Option.isSome_map]
 unfold putK storedH
 rw[e]
 by_cases q:(atKey xs k).isSome=true
 ·rw[if_pos q,if_pos q];exact r.repl k ry
 ·rw[if_neg q,if_neg q];exact Paired.snoc r ⟨rfl,hb,ry⟩
theorem KT.keeps {H H':Hp}{kvs:List (List Key×V)}{xs:List (List Key×Addr×Value)} (r:KT H kvs xs) (ht:∀b ys,H b=some (.tup ys)→H' b=some (.tup ys)):KT H' kvs xs :=
 Paired.mapP r fun _ _ z=>⟨z.1,ht _ _ z.2.1,z.2.2⟩
section
variable {P:Program}{w:World}{H:Hp}{h:Heap}{a:Addr}
theorem Yx8 {u:HO} (ok:HOk P w H h) (e:Rd H a u):Qv5 P w H h a u:=e.ok ok
theorem Zt0 {kvs:List (Key×V)} (ok:HOk P w H h) (e:Rd H a (.dK kvs)):kvs.length≤sizeLine∧(a==sysModules)=false∧∃vs,KV kvs vs∧h.DictOf (Qm3 P w) a vs :=
 show Qv5 P w H h a (.dK kvs) from Yx8 ok e
theorem Yf4 {kvs:List (Key×V)} (ok:HOk P w H h) (e:H a=some (.dK kvs)):kvs.length≤sizeLine∧(a==sysModules)=false∧∃vs,KV kvs vs∧h.DictOf (Qm3 P w) a vs:=Zt0 ok (.inl e)
theorem Zm2 {ks:List Key} (ok:HOk P w H h) (e:H a=some (.tup (ks.map kV))):(tupleKind (Qm3 P w)).is h ks a:=by
 obtain⟨_,its,r,o,h1,h2,n,h3⟩:=(show Qv5 P w H h a (.tup (ks.map kV)) from ok a _ e)
 exact⟨o,its.toArray,n,h1,h2,h3,by simpa using Xz8 r⟩
theorem Zt1 {kvs:List (List Key×V)} (ok:HOk P w H h) (e:Rd H a (.dT kvs)):kvs.length≤sizeLine∧(a==sysModules)=false ∧
  ∃xs,KT H kvs xs∧h.DictOfH (tupleKind (Qm3 P w)) a xs:=by
 obtain⟨z,y,xs,r,o,es,ep,h1,h2,h3,h4,h5⟩:=(show Qv5 P w H h a (.dT kvs) from Yx8 ok e)
 refine⟨z,y,xs,r,o,es,ep,h1,h2,h3,h4,fun x hx=>?_,h5⟩
 have all:∀{l:List (List Key×V)}{m:List (List Key×Addr×Value)},KT H l m→∀x∈m,(tupleKind (Qm3 P w)).is h x.1 x.2.1:=by
  intro l m q
  induction q with
  | nil=>intro x hx;exact nomatch hx
  | @cons p q ps qs hq t ih =>
   intro x hx
   rcases List.mem_cons.mp hx with e|hx
   ·subst e
    exact Zm2 ok (by rw[←hq.1];exact hq.2.1)
   ·exact ih x hx
 exact all r x hx
theorem Yf5 {kvs:List (List Key×V)} (ok:HOk P w H h) (e:H a=some (.dT kvs)):kvs.length≤sizeLine∧(a==sysModules)=false ∧
  ∃xs,KT H kvs xs∧h.DictOfH (tupleKind (Qm3 P w)) a xs:=Zt1 ok (.inl e)
end
def DGet (H:Hp) (a:Addr) (y:V) (r:Option V):Prop :=
 (∃kvs k,Rd H a (.dK kvs)∧y=kV k∧r=valV kvs k)∨∃kvs k b,Rd H a (.dT kvs)∧y=.ref b∧H b=some (.tup (k.map kV))∧r=valV kvs k
def DPut (H:Hp) (a:Addr) (y v:V) (H':Hp):Prop :=
 (∃kvs k,H a=some (.dK kvs)∧y=kV k∧kvs.length<sizeLine∧H'=upd H a (.dK (putK kvs k v))) ∨
 ∃kvs k b,H a=some (.dT kvs)∧y=.ref b∧H b=some (.tup (k.map kV))∧kvs.length<sizeLine∧H'=upd H a (.dT (putK kvs k v))
theorem DGet.t {H:Hp}{a b:Addr}{kvs:List (List Key×V)}{k:List Key} (e:H a=some (.dT kvs)) (eb:H b=some (.tup (k.map kV))):DGet H a (.ref b) (valV kvs k):=.inr ⟨kvs,k,b,.inl e,rfl,eb,rfl⟩
theorem DPut.t {H:Hp}{a b:Addr}{kvs:List (List Key×V)}{k:List Key}{v:V} (e:H a=some (.dT kvs)) (eb:H b=some (.tup (k.map kV))) (hl:kvs.length<sizeLine) :
  DPut H a (.ref b) v (upd H a (.dT (putK kvs k v))):=.inr ⟨kvs,k,b,e,rfl,eb,hl,rfl⟩
section
variable {X:Cx}{pins:List (Addr×Obj)}{σ:St}{H:Hp}{s:Shared}{a:Addr}{y v:V}{u r:Value}{o:Option V}{A:Around}{E:Value→Shared→Prop}
theorem Inv.big (I:Inv X pins σ H s):sysModules<s.heap.objs.size:=by
 have h:mainGlobals<s.heap.objs.size:=(I.mod.glob.keeps I.bk).lt
 exact Nat.lt_trans (by decide) h
theorem Xr9 {Q:Value→Shared→Prop} (hu:A.units+1<cLine) (I:Inv X pins σ H s) (g:DGet H a y (some v)) (ry:RelV y u) (h:∀w' s',Inv X pins σ H s'→RelV v w'→Q w' s') :
  wpAny (model X.prog X.w) A (getItem (.ref a) u) Q E s:=by
 rcases g with ⟨kvs,k,e,ey,l⟩|⟨kvs,k,b,e,ey,eb,l⟩
 ·subst ey
  obtain⟨z,hd,vs,rel,dd⟩:=Zt0 I.hok e
  obtain⟨w',hw,rw'⟩:=RelO.some_of (v:=v) (o:=valueAt vs k) (by rw[l];exact rel.val k)
  exact wpAny_getItem_of (Zi9 ry) dd.mapOf hw (h w' _ (I.tok _) rw')
 ·subst ey
  cases (show u=Value.ref b from ry)
  obtain⟨z,hd,xs,rel,dd⟩:=Zt1 I.hok e
  obtain⟨w',hw,rw'⟩:=RelO.some_of (v:=v) (o:=(atKey xs k).map (·.2)) (by rw[l];exact rel.val k)
  obtain⟨p,hp,hp2⟩:=Option.map_eq_some_iff.mp hw
  refine wpAny_getItem_heap (tupleKind_room_in1 hu) (Zm2 I.hok eb) dd hp ?_
  rw[hp2]
  exact h w' _ (I.tok _) rw'
theorem d_in {Q:Value→Shared→Prop} (hu:A.units+1<cLine) (I:Inv X pins σ H s) (g:DGet H a y o) (ry:RelV y u) (h:∀s',Inv X pins σ H s'→Q (.bool o.isSome) s') :
  wpAny (model X.prog X.w) A (compareOp .In u (.ref a)) Q E s:=by
 rcases g with ⟨kvs,k,e,ey,l⟩|⟨kvs,k,b,e,ey,eb,l⟩
 ·subst ey
  obtain⟨z,hd,vs,rel,dd⟩:=Zt0 I.hok e
  refine wpAny_in_of (Zi9 ry) hd dd.mapOf ?_
  rw[←(rel.val k).isSome_eq,←l]
  exact h _ (I.tok _)
 ·subst ey
  cases (show u=Value.ref b from ry)
  obtain⟨z,hd,xs,rel,dd⟩:=Zt1 I.hok e
  refine wpAny_in_heap (tupleKind_room_in1 hu) (Zm2 I.hok eb) hd dd ?_
  have q:=(rel.val k).isSome_eq
  rw[Option.isSome_map]at q
  rw[←q,←l]
  exact h _ (I.tok _)
theorem Yv3 {Q:Value→Shared→Prop} (hu:A.units+1<cLine) (I:Inv X pins σ H s) (g:DGet H a y o) (ry:RelV y u) (h:∀s',Inv X pins σ H s'→Q (.bool (!o.isSome)) s') :
  wpAny (model X.prog X.w) A (compareOp .NotIn u (.ref a)) Q E s:=by
 rcases g with ⟨kvs,k,e,ey,l⟩|⟨kvs,k,b,e,ey,eb,l⟩
 ·subst ey
  obtain⟨z,hd,vs,rel,dd⟩:=Zt0 I.hok e
  refine wpAny_notIn_of (Zi9 ry) hd dd.mapOf ?_
  rw[←(rel.val k).isSome_eq,←l]
  exact h _ (I.tok _)
 ·subst ey
  cases (show u=Value.ref b from ry)
  obtain⟨z,hd,xs,rel,dd⟩:=Zt1 I.hok e
  refine wpAny_notIn_heap (tupleKind_room_in1 hu) (Zm2 I.hok eb) hd dd ?_
  have q:=(rel.val k).isSome_eq
  rw[Option.isSome_map]at q
  rw[←q,←l]
  exact h _ (I.tok _)
theorem Xf0 {h':Heap}{t':Nat}{ob:HO} (I:Inv X pins σ H s) (mu:Mut (H a)) (hs:Heap.SameBut a s.heap h') (he:∃q,h'.get? a=some q) (new:Qv5 X.prog X.w (upd H a ob) h' a ob) :
  Inv X pins σ (upd H a ob) { s with heap:=h',toks:=t' } :=
 I.write (x:=a) (e:=a) mu (.inl rfl) (fun b q hb z=>(hs.2 b hb).trans z) he new
theorem Yh9 {P:Program}{w:World}{H':Hp}{h':Heap}{kvs:List (Key×V)}{vs:List (Key×Value)} (z:kvs.length≤sizeLine) (hd:(a==sysModules)=false) (rel:KV kvs vs) (dd:h'.DictOf (Qm3 P w) a vs) :
  Qv5 P w H' h' a (.dK kvs):=⟨z,hd,vs,rel,dd⟩
theorem Xs0 {H':Hp}{Q:Unit→Shared→Prop} (hu:A.units+1<cLine) (I:Inv X pins σ H s) (g:DPut H a y v H') (ry:RelV y u) (rv:RelV v r) (h:∀s',Inv X pins σ H' s'→Q () s') :
  wpAny (model X.prog X.w) A (setItem (.ref a) u r) Q E s:=by
 rcases g with ⟨kvs,k,e,ey,l,eH⟩|⟨kvs,k,b,e,ey,eb,l,eH⟩
 ·subst ey eH
  obtain⟨z,hd,vs,rel,dd⟩:=Yf4 I.hok e
  have hz:vs.length≤sizeLine:=by rw[←rel.length];exact z
  have hl:(putK kvs k v).length≤sizeLine:=by have:=Zy0 kvs k v;omega
  refine wpAny_setItem_pairs (hsz:=hz) (Zi9 ry) dd fun h' dd' hs=>h _ ?_
  have he:∃q,h'.get? a=some q:=let ⟨q,_,_,hq,_⟩:=dd';⟨q,hq⟩
  exact Xf0 I (by rw[e];exact True.intro) hs he (Yh9 hl hd (rel.put k rv) dd')
 ·subst ey eH
  cases (show u=Value.ref b from ry)
  obtain⟨z,hd,xs,rel,dd⟩:=Yf5 I.hok e
  have hz:xs.length≤sizeLine:=by rw[←Paired.length rel];exact z
  have hl:(putK kvs k v).length≤sizeLine:=by have:=Zy0 kvs k v;omega
  refine wpAny_setItem_heap (hsz:=hz) (tupleKind_room_in1 hu) (Zm2 I.hok eb) dd fun h' dd' hs=>h _ ?_
  obtain⟨q,es,ep,hq,h2,h3,h4,_,h5⟩:=dd'
  refine Xf0 I (by rw[e];exact True.intro) hs ⟨q,hq⟩ ⟨hl,hd,_,(rel.put k eb rv).keeps fun c ys ec=>?_,q,es,ep,hq,h2,h3,h4,h5⟩
  rw[Qz1 (Zw0 ec e (fun z=>nomatch z))]
  exact ec
end
section
variable {X:Cx}{pins:List (Addr×Obj)}{σ:St}{H:Hp}{s:Shared}{a:Addr}{kvs:List (Key×V)}{k:Key}{u:Value}{A:Around}{E:Value→Shared→Prop}
end
def NoSl (i:Expr):Prop:=∀ov iv,subscripted i false ov iv=operate [ov,iv] (getItem ov iv)
theorem Yv4 {prog:Program}{w:World}{A:Around}{E:Value→Shared→Prop}{s:Shared}{env:Env}{value slice:Expr}{pos:Pos}{T id:String}{Q:Value→Shared→Prop}
  (hl:typeLookup (.type T) "__getitem__" = pure (some (.builtin id))) (hs:NoSl slice)
  (h:wpAny (model prog w) A (eval value env) (fun o s₁=>wpAny (model prog w) A (eval slice env) (fun i s₂=>s₂.TypeIs o T∧wpAny (model prog w) A (getItem o i) Q E s₂) E s₁) E s) :
  wpAny (model prog w) A (eval (.Subscript value slice pos) env) Q E s:=by
 refine Subscript_ (wpAny_mono h (fun o s₁ h₁=>wpAny_mono h₁ (fun i s₂ h₂=>?_) fun _ _ x=>x) fun _ _ x=>x)
 obtain⟨hT,h₂⟩:=h₂
 unfold subscriptTail
 refine wpAny_bind ?_
 rw[getitemInPython_of_ne hT.not_modules]
 refine wpAny_bind (wpAny_specialOf hT hl ?_)
 have fin:wpAny (model prog w) A (subscripted slice false o i) (fun r s₃=>wpAny (model prog w) A (letTemporaryGo value o r >>= fun _=>pure r) Q E s₃) E s₂:=by
  rw[hs o i]
  exact wpAny_operating (wpAny_mono h₂ (fun r s₃ h₃=>wpAny_bind (wpAny_letTemporaryGo (wpAny_pure h₃))) fun _ _ x=>x)
 first
  | exact wpAny_pure (wpAny_bind fin)
  | exact wpAny_bind (wpAny_pure (wpAny_bind fin))
  | exact wpAny_bind fin
theorem Xb3 {X:Cx}{pins:List (Addr×Obj)}{σ:St}{H:Hp}{s:Shared}{a:Addr}{y:V}{o:Option V} (I:Inv X pins σ H s) (g:DGet H a y o):s.TypeIs (.ref a) "dict" := by
 rcases g with ⟨kvs,k,e,_,_⟩|⟨kvs,k,b,e,_,_,_⟩
 ·obtain⟨_,_,vs,_,dd⟩:=Zt0 I.hok e
  exact dd.typeIs
 ·obtain⟨_,_,xs,_,dd⟩:=Zt1 I.hok e
  exact dd.typeIs
def Yf6 (td ty:TE):TE:=fun σ H Q=>td σ H fun x H1=>ty σ H1 fun y H2=>∃a v,x=.ref a∧DGet H2 a y (some v)∧Q v H2
def tDIn (ty td:TE):TE:=fun σ H Q=>ty σ H fun y H1=>td σ H1 fun x H2=>∃a o,x=.ref a∧DGet H2 a y o∧Q (.bl o.isSome) H2
def Yv5 (ty td:TE):TE:=fun σ H Q=>ty σ H fun y H1=>td σ H1 fun x H2=>∃a o,x=.ref a∧DGet H2 a y o∧Q (.bl (!o.isSome)) H2
def Yf7 (td ty tv:TE):TS:=fun D σ H=>tv σ H fun v H1=>td σ H1 fun x H2=>ty σ H2 fun y H3=>∃a H4,x=.ref a∧DPut H3 a y v H4∧D.nx σ H4
section
variable {X:Cx}{o i e value:Expr}{pos pos' tpos:Pos}{td ty tv:TE}
theorem Xf1 (hu:X.A.units+1<cLine) (ho:PE X o td) (hi:PE X i ty) (hs:NoSl i):PE X (.Subscript o i pos) (Yf6 td ty):=by
 intro pins s σ H Q I h
 refine Yv4 PySem.F.slot_dict_getitem.lookup hs (thn (ho pins s σ H _ I h) fun u s1 ⟨x,H1,I1,rx,q1⟩=>thn (hi pins s1 σ H1 _ I1 q1) fun iv s2 ⟨y,H2,I2,ry,a,v,ex,g,q2⟩=>?_)
 subst ex
 obtain rfl:u=Value.ref a:=rx
 exact⟨Xb3 I2 g,Xr9 hu I2 g ry fun w' s3 I3 rw'=>⟨v,H2,I3,rw',q2⟩⟩
theorem Yb0 (hu:X.A.units+1<cLine) (hi:PE X i ty) (ho:PE X o td):PC X .In i o (tDIn ty td):=by
 intro pins s σ H Q I h
 refine thn (hi pins s σ H _ I h) fun iv s1 ⟨y,H1,I1,ry,q1⟩=>thn (ho pins s1 σ H1 _ I1 q1) fun u s2 ⟨x,H2,I2,rx,a,ov,ex,g,q2⟩=>?_
 subst ex
 obtain rfl:u=Value.ref a:=rx
 exact d_in hu I2 g ry fun s3 I3=>⟨.bl ov.isSome,H2,I3,rfl,q2⟩
theorem Xs1 (hu:X.A.units+1<cLine) (hi:PE X i ty) (ho:PE X o td):PC X .NotIn i o (Yv5 ty td):=by
 intro pins s σ H Q I h
 refine thn (hi pins s σ H _ I h) fun iv s1 ⟨y,H1,I1,ry,q1⟩=>thn (ho pins s1 σ H1 _ I1 q1) fun u s2 ⟨x,H2,I2,rx,a,ov,ex,g,q2⟩=>?_
 subst ex
 obtain rfl:u=Value.ref a:=rx
 exact Yv3 hu I2 g ry fun s3 I3=>⟨.bl (!ov.isSome),H2,I3,rfl,q2⟩
theorem Xf2 (hu:X.A.units+1<cLine) (ho:PE X o td) (hi:PE X i ty) (hv:PE X value tv) (hs:swapsWith value (some (.Subscript o i pos')) pos.line X.env=pure false) :
  PS X (.Assign [.Subscript o i pos'] value pos) (Yf7 td ty tv):=by
 intro pins s σ H D I h
 refine wpAny_Assign_Subscript (thn (hv pins s σ H _ I h) fun r s1 ⟨v,H1,I1,rv,q1⟩=>thn (ho pins s1 σ H1 _ I1 q1) fun u s2 ⟨x,H2,I2,rx,q2⟩=>thn (hi pins s2 σ H2 _ I2 q2) fun iv s3 ⟨y,H3,I3,ry,a,H4,ex,g,q3⟩=>?_) hs
 subst ex
 obtain rfl:u=Value.ref a:=rx
 exact Xs0 hu I3 g ry rv fun s4 I4=>⟨σ,H4,I4,q3⟩
end
theorem Xo4 {P:Program}{w:World}{H:Hp} (h:Heap) (hb:sysModules<h.objs.size):Qv5 P w H (h.push { cls:=.type "dict",data:=.dict #[] }) h.objs.size (.dT []) :=
 ⟨Nat.zero_le _,beq_eq_false_iff_ne.mpr (Ne.symm (Nat.ne_of_lt hb)),[],.nil,_,#[],0,Heap.get?_push_size _ rfl,⟨rfl,rfl,rfl⟩,rfl,rfl,List.nodup_nil⟩
def Yb1:TE:=fun _ H Q=>∀p,H p=none→Q (.ref p) (upd H p (.dT []))
section
variable {X:Cx}{pos:Pos}
theorem Xy3:PE X (.Dict [] [] pos) Yb1:=fun pins s σ H Q I h =>
 wpAny_Dict_empty ⟨.ref s.heap.objs.size,_,I.laid (a:=s.heap.objs.size) (o:=.dT []) (t':=s.toks) (fun _ _ q=>Heap.get?_push_of_some _ q) (Nat.le_refl _) (Xo4 s.heap I.big),rfl,h _ (I.hok.fresh (Nat.le_refl _))⟩
end
structure M1 (X:Cx) (o:Expr) (m:Str) (apos:Pos) (e:Expr) (cpos:Pos):Prop where
 base:attributeBase o m X.env (eval o X.env)=eval o X.env
 few:((backTo cpos (starEach [e] X.env)).all (fun x=>!x.1)&&(backToKw cpos (keywordEach [] X.env)).all (fun x=>x.1.isSome)
  && decide (([e]:List Expr).length+([]:List Keyword).length+(if ([]:List Keyword).isEmpty then 0 else 1)<30))=true
 line:(apos.endLine==cpos.line)=true
 trees:backTo cpos (starEach [e] X.env)=[(false,eval e X.env)]
structure M2 (X:Cx) (o:Expr) (m:Str) (apos:Pos) (e f:Expr) (cpos:Pos):Prop where
 base:attributeBase o m X.env (eval o X.env)=eval o X.env
 few:((backTo cpos (starEach [e,f] X.env)).all (fun x=>!x.1)&&(backToKw cpos (keywordEach [] X.env)).all (fun x=>x.1.isSome)
  && decide (([e,f]:List Expr).length+([]:List Keyword).length+(if ([]:List Keyword).isEmpty then 0 else 1)<30))=true
 line:(apos.endLine==cpos.line)=true
 trees:backTo cpos (starEach [e,f] X.env)=[(false,eval e X.env),(false,eval f X.env)]
section
variable {X:Cx}{pins:List (Addr×Obj)}{σ:St}{H:Hp}{s:Shared}{a:Addr}{y d:V}{u r:Value}{o:Option V}{A:Around}{E:Value→Shared→Prop}
end
section
variable {X:Cx}{o e f:Expr}{apos cpos:Pos}{td ty tx:TE}
end
section
variable {X:Cx}{pins:List (Addr×Obj)}{σ:St}{H:Hp}{s:Shared}{a:Addr}{kvs:List (Key×V)}{A:Around}{E:Value→Shared→Prop}
end
section
variable {X:Cx}{pins:List (Addr×Obj)}{σ:St}{H:Hp}{s:Shared}{a:Addr}{y:V}{u:Value}{A:Around}{E:Value→Shared→Prop}
end
end L2
namespace Att
open PySem PySem.W PySem.Calls PyProof.Rows
section
variable {prog:Program}{w:World}{A:Around}{E:Value→Shared→Prop}{s:Shared}{K:Frag}
end
end Att
namespace L2
open PySem PySem.Spec PyProof.Rows
end L2
namespace L2
open PySem PySem.Spec PyProof.Rows
end L2
namespace L2
open PySem PySem.Spec PyProof.Rows
section
variable {P:Program}{w:World}{K:PySem.W.Frag}{mg:Str→Option Value}{base:Heap}
end
section
variable {X:Cx}
end
section
variable {κ:Type} [DecidableEq κ]
theorem Xo5 {kvs:List (κ×V)}{k:κ} (h:valV kvs k=none):¬k∈kvs.map (·.1):=by
 intro m
 obtain⟨p,hp,e⟩:=List.mem_map.mp m
 have q:(kvs.any fun kv=>decide (kv.1=k))=true:=List.any_eq_true.mpr ⟨p,hp,decide_eq_true e⟩
 rw[Qo2,h]at q
 exact absurd q (by simp)
theorem Xf3:∀{l:List κ}{k:κ},l.Nodup→¬k∈l→(l++[k]).Nodup
 | [],k,_,_=>by simp
 | a::r,k,h,hk=>by
  obtain⟨h1,h2⟩:=List.nodup_cons.mp h
  show (a::(r++[k])).Nodup
  refine List.nodup_cons.mpr ⟨fun m=>?_,Xf3 h2 fun m=>hk (List.mem_cons.mpr (Or.inr m))⟩
  rcases List.mem_append.mp m with q|q
  ·exact h1 q
  ·exact hk (List.mem_cons.mpr (Or.inl (List.mem_singleton.mp q).symm))
theorem Yv6 {kvs:List (κ×V)}{k:κ} (v:V) (hn:(kvs.map (·.1)).Nodup) (h:valV kvs k=none):((putK kvs k v).map (·.1)).Nodup:=by
 rw[Zr7 v h,List.map_append]
 exact Xf3 hn (Xo5 h)
end
end L2
namespace L2
open PySem PySem.Spec PyProof.Rows
abbrev RKey:=Int×List Int
section
variable {P:Program}{w:World}
def Qu3 (P:Program) (w:World) (h:Heap) (k:RKey) (a:Addr):Prop:=∃o items n t b,h.get? a=some o∧o.cls=.type "tuple" ∧ o.data=.seq items n∧items.toList=[.int k.1 t,.ref b]∧IsTupleKey (intKind P w) h k.2 b
theorem Qu3.typeIs {s:Shared}{k:RKey}{a:Addr} (x:Qu3 P w s.heap k a):s.TypeIs (.ref a) "tuple" := let ⟨o,_,_,_,_,ho,hc,_⟩:=x;⟨o,ho,hc⟩
theorem Qu3.inj {h:Heap}{a:Addr}{x y:RKey} (hx:Qu3 P w h x a) (hy:Qu3 P w h y a):x=y:=by
 obtain⟨o,items,n,t,b,ho,_,hd,hi,hk⟩:=hx
 obtain⟨o',items',n',t',b',ho',_,hd',hi',hk'⟩:=hy
 obtain rfl:o=o':=Option.some.inj (ho.symm.trans ho')
 rw[hd]at hd'
 injection hd' with h1 _
 subst h1
 rw[hi]at hi'
 simp only[List.cons.injEq,Value.int.injEq,Value.ref.injEq]at hi'
 obtain⟨⟨e1,_⟩,e2,_⟩:=hi'
 subst e2
 exact Prod.ext e1 (hk.inj hk')
theorem Qu3.keeps {h h':Heap}{k:RKey}{a d:Addr}{o:Obj}{es ep} (x:Qu3 P w h k a) (ho:h.get? d=some o) (hd:o.data=.dict es ep) (hs:Heap.SameBut d h h'):Qu3 P w h' k a:=by
 obtain⟨o',items,n,t,b,ho',hc,hd',hi,hk⟩:=x
 have hne:a≠d:=by
  rintro rfl
  obtain rfl:o'=o:=Option.some.inj (ho'.symm.trans ho)
  rw[hd]at hd';exact nomatch hd'
 exact⟨o',items,n,t,b,(hs.2 a hne).trans ho',hc,hd',hi,hk.keeps ho hd hs⟩
def Zr8 (w:World) (P:Program) (k:RKey):Int:=reduceHash (Builtin.Tuple.tupleHashOf [hashInt k.1,tupleKeyHash (intKind P w) k.2])
variable {A:Around}{E:Value→Shared→Prop}{s:Shared}
theorem Zl7 {k:RKey}{a:Addr}{Q:Int→Shared→Prop} (hu:A.units+5<cLine) (hk:Qu3 P w s.heap k a) (h:Q (Zr8 w P k) { s with toks:=s.toks+(k.2.length+3) }) :
  wpAny (model P w) A (pyHash (.ref a)) Q E s:=by
 have hT:=hk.typeIs
 obtain⟨o,items,n,t,b,ho,_,hd,hi,hkb⟩:=hk
 unfold pyHash
 first|unfold pyHashByItsType|skip
 first|refine wpAny_bind (wpAny_cRoomFor_or (.inr (by omega)) ?_)|skip
 refine wpAny_bind (wpAny_specialOf hT F.slot_tuple_hash.lookup ?_)
 show wpAny _ _ (if (some (Value.builtin "tuple.__hash__")==some Value.none)=true then _ else _) Q E s
 rw[if_neg (by rw[beq_builtin_none];exact Bool.false_ne_true)]
 refine wpAny_bind (wpAny_specialOf hT F.slot_tuple_hash.lookup ?_)
 show wpAny _ _ (callSpecialIfBoundUnlessNone? (.ref a) "__hash__" _ >>= _) Q E s
 refine wpAny_bind (wpAny_callSpecialIfBoundUnlessNone?_slot hT F.slot_tuple_hash (wpAny_call_entry F.slot_tuple_hash hT F.entry_tuple_hash ?_ (F.args_tuple_hash_1 _)))
 show wpAny _ _ (Builtin.Tuple.tupleItemsOf (.ref a) >>= _) _ _ s
 refine wpAny_bind (wpAny_tupleItemsOf ho hd ?_)
 refine wpAny_bind ?_
 rw[←Array.forIn_toList,hi]
 refine wpAny_forIn_list _
  (fun rest (c:Array Int) s'=>(rest=[.int k.1 t,.ref b]∧c.toList=[]∧s'=s)∨(rest=[.ref b]∧c.toList=[hashInt k.1]∧s'={ s with toks:=s.toks+1 }) ∨
   (rest=[]∧c.toList=[hashInt k.1,tupleKeyHash (intKind P w) k.2]∧s'={ s with toks:=s.toks+1+(k.2.length+1) }))
  _ ?_ ?_ _ _ (.inl ⟨rfl,rfl,rfl⟩)
 ·rintro x rest c s' (⟨e,hc,rfl⟩|⟨e,hc,rfl⟩|⟨e,_,_⟩)
  ·simp only[List.cons.injEq]at e
   obtain⟨rfl,rfl⟩:=e
   refine wpAny_bind (wpAny_pyHash_int ?_)
   first
    | exact wpAny_pure (.inr (.inl ⟨rfl,by simp[hc],rfl⟩))
    | exact wpAny_bind (wpAny_pure (wpAny_pure (.inr (.inl ⟨rfl,by simp[hc],rfl⟩))))
  ·simp only[List.cons.injEq]at e
   obtain⟨rfl,rfl⟩:=e
   refine wpAny_bind (wpAny_pyHash_tuple (knd:=intKind P w) (s:={ s with toks:=s.toks+1 }) (ks:=k.2) (by show A.units+1<cLine;omega) hkb ?_)
   first
    | exact wpAny_pure (.inr (.inr ⟨rfl,by simp[hc],rfl⟩))
    | exact wpAny_bind (wpAny_pure (wpAny_pure (.inr (.inr ⟨rfl,by simp[hc],rfl⟩))))
  ·cases e
 ·rintro c s' (⟨e,_,_⟩|⟨e,_,_⟩|⟨_,hc,rfl⟩)
  ·cases e
  ·cases e
  show wpAny _ _ (retInt (Builtin.Tuple.tupleHashOf c.toList)) _ _ _
  rw[hc]
  refine wpAny_ret_mkInt ?_
  show wpAny _ _ (if (decide (-(2:Int)^63≤Builtin.Tuple.tupleHashOf [hashInt k.1,tupleKeyHash (intKind P w) k.2])&&decide (Builtin.Tuple.tupleHashOf [hashInt k.1,tupleKeyHash (intKind P w) k.2]<2^63))=true then _ else _) Q E _
  unfold Zr8 reduceHash at h
  have ht:s.toks+1+(k.2.length+1)+1=s.toks+(k.2.length+3):=by omega
  by_cases hr:(decide (-(2:Int)^63≤Builtin.Tuple.tupleHashOf [hashInt k.1,tupleKeyHash (intKind P w) k.2])&&decide (Builtin.Tuple.tupleHashOf [hashInt k.1,tupleKeyHash (intKind P w) k.2]<2^63))=true
  ·rw[if_pos hr]
   rw[if_pos hr]at h
   exact wpAny_pure (by rw[ht];exact h)
  ·rw[if_neg hr]
   rw[if_neg hr]at h
   exact wpAny_bind (wpAny_rule (wpAny_pure (by rw[ht];exact h)))
theorem Xy4 {x y:RKey}{a b:Addr}{R:Fin→Shared→Prop} (hu:A.units<cLine) (hx:Qu3 P w s.heap x a) (hy:Qu3 P w s.heap y b) (h:R (.done (.ret (.bool (decide (x=y))))) s) :
  wpAny (model P w) A (Builtin.«tuple.__eq__» ⟨[.ref a,.ref b],[]⟩) R E s:=by
 have hTb:=hy.typeIs
 obtain⟨oa,xs,na,ta,ba,hoa,_,hda,hia,hka⟩:=hx
 obtain⟨ob,ys,nb,tb,bb,hob,_,hdb,hib,hkb⟩:=hy
 have hsz:(xs.size==ys.size)=true:=by
  have e1:xs.size=2:=by rw[←Array.length_toList,hia];rfl
  have e2:ys.size=2:=by rw[←Array.length_toList,hib];rfl
  rw[e1,e2];rfl
 show wpAny _ _ (isInstance (.ref b) (.type "tuple") >>= _) _ _ s
 refine wpAny_bind (wpAny_isInstance hTb isSubtype_tuple_tuple ?_)
 simp only[Bool.not_true,Bool.false_eq_true,if_false]
 refine wpAny_bind (wpAny_tupleItemsOf hoa hda ?_)
 refine wpAny_bind (wpAny_tupleItemsOf hob hdb ?_)
 refine wpAny_bind ?_
 rw[hia,hib]
 refine wpAny_forIn_list _
  (fun rest r s'=>r.1=none∧s'=s∧(rest=[(.int x.1 ta,.int y.1 tb),(.ref ba,.ref bb)]∨(rest=[(.ref ba,.ref bb)]∧x.1=y.1)∨(rest=[]∧x=y)))
  _ ?_ ?_ _ _ ⟨rfl,rfl,.inl rfl⟩
 ·rintro⟨u,v⟩ rest r s' ⟨hr,rfl,e|⟨e,e1⟩|⟨e,_⟩⟩
  ·simp only[List.cons.injEq,Prod.mk.injEq]at e
   obtain⟨⟨rfl,rfl⟩,rfl⟩:=e
   refine wpAny_bind ((intKind P w).eqBool (a:=x.1) (b:=y.1) (by simp[intKind,Value.isInt]) (by simp[intKind,Value.isInt]) ?_)
   by_cases hk:x.1=y.1
   ·rw[decide_eq_true hk]
    simp only[Bool.not_true,Bool.false_eq_true,if_false]
    exact wpAny_pure ⟨rfl,rfl,.inr (.inl ⟨by first|rfl|trivial,hk⟩)⟩
   ·rw[decide_eq_false hk]
    simp only[Bool.not_false,if_true]
    have hf:decide (x=y)=false:=decide_eq_false fun z=>hk (by rw[z])
    rw[hf]at h
    exact wpAny_bind (wpAny_pure (wpAny_pure (wpAny_pure h)))
  ·simp only[List.cons.injEq,Prod.mk.injEq]at e
   obtain⟨⟨rfl,rfl⟩,rfl⟩:=e
   refine wpAny_bind (wpAny_eqBool_tuple (knd:=intKind P w) hu hka hkb ?_)
   by_cases hk:x.2=y.2
   ·rw[decide_eq_true hk]
    simp only[Bool.not_true,Bool.false_eq_true,if_false]
    exact wpAny_pure ⟨rfl,rfl,.inr (.inr ⟨by first|rfl|trivial,Prod.ext e1 hk⟩)⟩
   ·rw[decide_eq_false hk]
    simp only[Bool.not_false,if_true]
    have hf:decide (x=y)=false:=decide_eq_false fun z=>hk (by rw[z])
    rw[hf]at h
    exact wpAny_bind (wpAny_pure (wpAny_pure (wpAny_pure h)))
  ·cases e
 ·rintro⟨r1,r2⟩ s' ⟨hr,rfl,e|⟨e,_⟩|⟨_,e⟩⟩
  ·cases e
  ·cases e
  simp only at hr
  subst hr
  refine wpAny_pure ?_
  show R (.done (.ret (.bool (xs.size==ys.size)))) s'
  rw[hsz]
  rw[decide_eq_true e]at h
  exact h
theorem Zl8 {x y:RKey}{a b:Addr}{Q:Bool→Shared→Prop} (hu:A.units+5<cLine) (hx:Qu3 P w s.heap x a) (hy:Qu3 P w s.heap y b) (h:Q (decide (x=y)) s) :
  wpAny (model P w) A (eqBool (.ref a) (.ref b)) Q E s:=by
 unfold eqBool
 try with_reducible refine wpAny_holding ?_
 show wpAny _ _ (if (Value.ref a==Value.ref b)=true then _ else _) Q E s
 by_cases hab:(Value.ref a==Value.ref b)=true
 ·rw[if_pos hab]
  have e:a=b:=by have:=eq_of_beq hab;injection this
  subst e
  obtain rfl:=hx.inj hy
  exact wpAny_bind (wpAny_rule (wpAny_pure (by simpa using h)))
 ·rw[if_neg hab]
  exact wpAny_bind (wpAny_richCompare_same_room (op:=.Eq) hx.typeIs hy.typeIs F.slot_tuple_eq
   (wpAny_call_entry F.slot_tuple_eq hx.typeIs F.entry_tuple_eq (Xy4 (by show A.units+1<cLine;omega) hx hy ⟨_,rfl,(fun e=>nomatch e),wpAny_truthy_bool h⟩) (F.args_tuple_eq_2 _ _)) (by omega))
theorem Zy1 {ks:List Int}{a:Addr}{Q:Bool→Shared→Prop} (hk:IsTupleKey (intKind P w) s.heap ks a) (h:Q true s):wpAny (model P w) A (eqIsQuiet 7 (.ref a)) Q E s:=by
 have hT:=hk.typeIs
 obtain⟨o,items,n,ho,_,hd,hi⟩:=hk
 unfold eqIsQuiet
 refine wpAny_bind (wpAny_specialOf hT F.slot_tuple_eq.lookup ?_)
 show wpAny _ _ (isInstance (.ref a) (.type "tuple") >>= _) _ _ s
 refine wpAny_bind (wpAny_isInstance hT isSubtype_tuple_tuple ?_)
 simp only[Bool.not_true,Bool.false_eq_true,if_false]
 refine wpAny_bind (wpAny_seqItems ho hd ?_)
 refine wpAny_bind ?_
 show wpAny _ _ (forIn items _ _) _ _ s
 rw[←Array.forIn_toList]
 refine wpAny_forIn_list _ (fun rest r s'=>r.1=none∧s'=s∧∀v∈rest,carriedByValue v=true) _ ?_ ?_ _ _ ⟨rfl,rfl,hi.byValue⟩
 ·rintro v rest r s' ⟨hr,rfl,hall⟩
  rw[eqIsQuiet_byValue _ (hall v List.mem_cons_self)]
  refine wpAny_bind (wpAny_pure ?_)
  simp only[Bool.not_true,Bool.false_eq_true,if_false]
  exact wpAny_pure ⟨rfl,rfl,fun u hu'=>hall u (List.mem_cons_of_mem _ hu')⟩
 ·rintro⟨r1,r2⟩ s' ⟨hr,rfl,_⟩
  simp only at hr
  subst hr
  exact wpAny_pure h
theorem Zb0 {k:RKey}{a:Addr}{Q:Bool→Shared→Prop} (hk:Qu3 P w s.heap k a) (h:Q true s):wpAny (model P w) A (eqIsQuiet 8 (.ref a)) Q E s:=by
 have hT:=hk.typeIs
 obtain⟨o,items,n,t,b,ho,_,hd,hi,hkb⟩:=hk
 unfold eqIsQuiet
 refine wpAny_bind (wpAny_specialOf hT F.slot_tuple_eq.lookup ?_)
 show wpAny _ _ (isInstance (.ref a) (.type "tuple") >>= _) _ _ s
 refine wpAny_bind (wpAny_isInstance hT isSubtype_tuple_tuple ?_)
 simp only[Bool.not_true,Bool.false_eq_true,if_false]
 refine wpAny_bind (wpAny_seqItems ho hd ?_)
 refine wpAny_bind ?_
 show wpAny _ _ (forIn items _ _) _ _ s
 rw[←Array.forIn_toList,hi]
 refine wpAny_forIn_list _ (fun rest r s'=>r.1=none∧s'=s∧(rest=[.int k.1 t,.ref b]∨rest=[.ref b]∨rest=[])) _ ?_ ?_ _ _ ⟨rfl,rfl,.inl rfl⟩
 ·rintro v rest r s' ⟨hr,rfl,e|e|e⟩
  ·simp only[List.cons.injEq]at e
   obtain⟨rfl,rfl⟩:=e
   rw[eqIsQuiet_byValue _ (show carriedByValue (.int k.1 t)=true from rfl)]
   refine wpAny_bind (wpAny_pure ?_)
   simp only[Bool.not_true,Bool.false_eq_true,if_false]
   exact wpAny_pure ⟨rfl,rfl,.inr (.inl (by first|rfl|trivial))⟩
  ·simp only[List.cons.injEq]at e
   obtain⟨rfl,rfl⟩:=e
   refine wpAny_bind (Zy1 hkb ?_)
   simp only[Bool.not_true,Bool.false_eq_true,if_false]
   exact wpAny_pure ⟨rfl,rfl,.inr (.inr (by first|rfl|trivial))⟩
  ·cases e
 ·rintro⟨r1,r2⟩ s' ⟨hr,rfl,_⟩
  simp only at hr
  subst hr
  exact wpAny_pure h
end
def Qo3 (P:Program) (w:World):HeapKind P w RKey where
 is:=Qu3 P w
 hash:=Zr8 w P
 draws:=fun k=>k.2.length+3
 room:=fun A=>A.units+5<cLine
 inj:=fun hx hy=>hx.inj hy
 keeps:=fun x ho hd hs=>x.keeps ho hd hs
 pyHash:=fun hu hk h=>Zl7 hu hk h
 eqBool:=fun hu hx hy h=>Zl8 hu hx hy h
 quiet:=fun hk h=>Zb0 hk h
end L2
namespace L2
open PySem PySem.Spec PyProof.Rows
section
variable {prog:Program}{w:World}{K:Type} [DecidableEq K] {knd:HeapKind prog w K}{A:Around}{E:Value→Shared→Prop}{s:Shared}
theorem Zz8 {d a:Addr}{xs:List (K×Addr×Value)}{k:K}{dflt:Value}{Q:Value→Shared→Prop} (hu:knd.room A) (hkey:knd.is s.heap k a) (hm:s.heap.DictOfH knd d xs)
  (hthere:∀p,atKey xs k=some p→Q p.2 { s with toks:=s.toks+knd.draws k })
  (hnew:atKey xs k=none→∀h',h'.DictOfH knd d (xs++[(k,a,dflt)])→Heap.SameBut d s.heap h'→Q dflt { s with heap:=h',toks:=s.toks+knd.draws k })
  (hsz:xs.length≤sizeLine:=by size_fits) :
  wpAny (model prog w) A (dictSetDefault d (.ref a) dflt) Q E s:=by
 obtain⟨o,es,ep,ho,hc,hd,he,his,hn⟩:=hm
 unfold dictSetDefault
 try with_reducible refine wpAny_holding ?_
 refine wpAny_bind (knd.pyHash hu hkey ?_)
 refine wpAny_bind (wpAny_dictFind_heap (s:={ s with toks:=s.toks+knd.draws k }) hu hkey ho hd he his hn ?_ ?_)
 ·intro hno
  have hnot:k∉xs.map (·.1):=not_mem_keys_of_get hno
  refine wpAny_bind (wpAny_rule (wpAny_bind (wpAny_updateDictKeys (hz:=by have e:=size_of_entries he;omega) (s:={ s with toks:=s.toks+knd.draws k }) ho hd (wpAny_pure (hnew (atKey_none_of_get hno) _ ⟨_,_,ep+1,Heap.get?_update_self _ ho (Obj.isFreed_of_dict (Obj.data_mapDictKeys hd _)),
   hc.mapDictKeys _,Obj.data_mapDictKeys hd _,?_,?_,?_⟩ (Heap.SameBut.update ..))))))
  ·simp[he,entryOfKey]
  ·intro x hx
   rcases List.mem_append.mp hx with hx|hx
   ·exact knd.keeps (his x hx) ho hd (Heap.SameBut.update ..)
   ·simp only[List.mem_singleton]at hx
    subst hx
    exact knd.keeps hkey ho hd (Heap.SameBut.update ..)
  ·rw[List.map_append,List.nodup_append]
   refine⟨hn,by simp,?_⟩
   intro x hx y hy
   simp only[List.map_cons,List.map_nil,List.mem_singleton]at hy
   subst hy
   exact fun e=>hnot (e▸hx)
 ·intro j p hj
  refine wpAny_bind (wpAny_dictEntries (s:={ s with toks:=s.toks+knd.draws k }) ho hd ?_)
  have hej:es[j]?=some (entryOfKey knd (k,p)):=by rw[entry_at he j,hj];rfl
  rw[hej]
  exact wpAny_bind (wpAny_rule (wpAny_pure (hthere p (atKey_of_get hn hj))))
theorem Zy2 (d a:Addr) (hd:(d==sysModules)=false) (dflt:Value) :
  MeetsIn prog w (Builtin.«dict.setdefault» ⟨[.ref d,.ref a,dflt],[]⟩) (fun A R s=>knd.room A.in1∧∃k xs,knd.is s.heap k a∧s.heap.DictOfH knd d xs∧xs.length≤sizeLine ∧
   (∀p,atKey xs k=some p→R (.ok (.ret p.2)) { s with toks:=s.toks+knd.draws k }) ∧
   (atKey xs k=none→∀h',h'.DictOfH knd d (xs++[(k,a,dflt)])→Heap.SameBut d s.heap h'→R (.ok (.ret dflt)) { s with heap:=h',toks:=s.toks+knd.draws k })) :=
 .of_wp fun A R s ⟨hu,k,xs,hkey,hm,hz,h1,h2⟩=>by
  unfold Builtin.«dict.setdefault»
  refine wpAny_bind ?_
  unfold Builtin.Dict.keyAndDefault
  refine wpAny_bind (wpAny_notOrdered_dict hm.typeIs ?_)
  show wpAny _ _ (pure (d,Value.ref a,some dflt)) _ _ s
  refine wpAny_pure ?_
  show wpAny _ _ (if (d==sysModules)=true then _ else (dictSetDefault d (.ref a) dflt >>= _)) _ _ s
  rw[if_neg (by rw[hd];exact Bool.false_ne_true)]
  exact wpAny_bind (Zz8 (hsz:=hz) hu hkey hm (fun v hv=>wpAny_pure ⟨v.2,rfl,h1 v hv⟩) fun hn h' hm' hs'=>wpAny_pure ⟨dflt,rfl,h2 hn h' hm' hs'⟩)
theorem Zt2 (d:Addr) (hd:(d==sysModules)=false) :
  MeetsIn prog w (Builtin.«dict.__len__» ⟨[.ref d],[]⟩) (fun _ R s=>∃xs,s.heap.DictOfH knd d xs∧R (.ok (.ret (.int (xs.length:Nat) s.toks))) { s with toks:=s.toks+1 }) :=
 .of_wp fun A R s ⟨xs,hm,h⟩=>by
  obtain⟨o,es,ep,ho,hc,hdat,he,his,hn⟩:=hm
  show wpAny _ _ (dictSize d >>= _) _ _ s
  unfold dictSize
  refine wpAny_bind (wpAny_bind (wpAny_dictEntries ho hdat (wpAny_pure ?_)))
  show wpAny _ _ (Builtin.Dict.pendingCount d >>= _) _ _ s
  refine wpAny_bind (wpAny_pendingCount_other hd ?_)
  refine wpAny_ret_mkInt ?_
  have:es.size=xs.length:=size_of_entries he
  rw[Nat.add_zero,this];exact h
theorem Ze3 {d:Addr}{xs:List (K×Addr×Value)}{Q:Value→Shared→Prop} (hd:(d==sysModules)=false) (hm:s.heap.DictOfH knd d xs) (hfit:(xs.length:Int)<2^63)
  (h:Q (.int (xs.length:Nat) (s.toks+1)) { s with toks:=s.toks+1+1 }):wpAny (model prog w) A (call (.builtin "len") [.ref d]) Q E s:=by
 refine Calls.call_function_entry kind_len plain_len entry_len (args_len1 _) ?_
 unfold Builtin.«len»
 refine wpAny_bind (m:=oneArg "len" _) (wpAny_pure ?_)
 refine wpAny_bind (m:=callSpecial? (.ref d) (Str.ofString "__len__")) (wpAny_callSpecial?_slot (name:=Str.ofString "__len__") hm.typeIs F.slot_dict_len
  (call_meetsIn F.slot_dict_len hm.typeIs F.entry_dict_len (F.args_dict_len_1 _) (Zt2 (knd:=knd) d hd) ⟨xs,hm,?_⟩))
 show wpAny _ _ _ _ _ { s with toks:=s.toks+1 }
 refine wpAny_bind (wpAny_holding (wpAny_pure ?_))
 refine wpAny_bind (wpAny_letGo ?_)
 show wpAny _ _ (if ((xs.length:Nat):Int)<0 then _ else _) _ _ _
 rw[if_neg (by omega)]
 show wpAny _ _ (if ((xs.length:Nat):Int)≥2^63 then _ else _) _ _ _
 rw[if_neg (by omega)]
 exact wpAny_bind (wpAny_mkInt (wpAny_pure ⟨_,rfl,h⟩))
end
abbrev RKv:=RKey×Addr×Int
def relR (p:RKv) (q:RKey×Addr×Value):Prop:=p.1=q.1∧p.2.1=q.2.1∧RelV (.int p.2.2) q.2.2
def Qd4 (P:Program) (w:World) (a:Addr) (kvs:List RKv):HO:=.ext fun h=>kvs.length≤sizeLine∧(a==sysModules)=false∧∃(o:Obj) (es:Array DictEntry) (ep:Nat) (xs:List (RKey×Addr×Value)),
 h.get? a=some o∧o.ExactDict∧o.data=.dict es ep∧es.toList=xs.map (entryOfKey (Qo3 P w))∧(xs.map (·.1)).Nodup∧Paired relR kvs xs
def RestsOk (H:Hp) (kvs:List RKv):Prop:=∀p∈kvs,∃c,H p.2.1=some (.tup [.int p.1.1,.ref c])∧H c=some (.tup (p.1.2.map V.int))
def Zz9 (kvs:List RKv) (k:RKey):Option Int:=(kvs.find? fun x=>decide (x.1=k)).map (·.2.2)
theorem Xy5 {P:Program}{w:World}{H:Hp}{h:Heap}{a:Addr}{kvs:List RKv} (hz:kvs.length≤sizeLine) (hd:(a==sysModules)=false) {o:Obj}{es:Array DictEntry}{ep:Nat}{xs:List (RKey×Addr×Value)}
  (ho:h.get? a=some o) (hc:o.ExactDict) (hdt:o.data=.dict es ep) (he:es.toList=xs.map (entryOfKey (Qo3 P w))) (hn:(xs.map (·.1)).Nodup) (r:Paired relR kvs xs):Qv5 P w H h a (Qd4 P w a kvs) :=
 ⟨⟨hz,hd,o,es,ep,xs,ho,hc,hdt,he,hn,r⟩,⟨o,ho⟩,fun h1 h2 ⟨z,y,o,es,ep,xs,e,r⟩ k=>⟨z,y,o,es,ep,xs,k _ e,r⟩⟩
theorem Zt3 {α β:Type}{F:α→β→Prop}:∀{l:List α}{m:List β},Paired F l m→∀y∈m,∃x∈l,F x y
 | _,_,.nil,y,hy=>nomatch hy
 | _,_,.cons (a:=x) (b:=z) r t,y,hy=>by
  rcases List.mem_cons.mp hy with e|e
  ·subst e;exact⟨x,List.mem_cons_self ..,r⟩
  ·obtain⟨x',h1,h2⟩:=Zt3 t y e
   exact⟨x',List.mem_cons_of_mem _ h1,h2⟩
theorem Zt4:∀{xs:List Int}{us:List Value}{P:Program}{w:World},Vals (xs.map V.int) us→ItemsAre (intKind P w) xs us
 | [],_,_,_,r=>by cases r;exact .nil
 | x::xs,_,P,w,r=>by
  cases r with
  | cons r t =>
   obtain⟨tk,rfl⟩:=r
   exact .cons (by simp[intKind,Value.isInt]) (Zt4 t)
theorem Xy6 {P:Program}{w:World}{H:Hp}{h:Heap}{b c:Addr}{k:RKey} (ok:HOk P w H h) (e:H b=some (.tup [.int k.1,.ref c])) (ec:H c=some (.tup (k.2.map V.int))):(Qo3 P w).is h k b:=by
 obtain⟨_,its,r,o,h1,h2,n,h3⟩:=(show Qv5 P w H h b (.tup [.int k.1,.ref c]) from ok b _ e)
 obtain⟨_,its',r',o',h1',h2',n',h3'⟩:=(show Qv5 P w H h c (.tup (k.2.map V.int)) from ok c _ ec)
 obtain⟨u,v,rfl,ru,rv⟩:=Vals.two r
 obtain⟨t,rfl⟩:=ru
 cases rv
 exact⟨o,_,n,t,c,h1,h2,h3,rfl,o',its'.toArray,n',h1',h2',h3',by simpa using Zt4 r'⟩
theorem Ze4 {P:Program}{w:World}{H:Hp}{h:Heap}{a:Addr}{kvs:List RKv} (ok:HOk P w H h) (e:H a=some (Qd4 P w a kvs)) (ks:RestsOk H kvs):kvs.length≤sizeLine∧(a==sysModules)=false∧∃xs,Paired relR kvs xs∧h.DictOfH (Qo3 P w) a xs:=by
 obtain⟨⟨z,y,o,es,ep,xs,h1,h2,h3,h4,h5,r⟩,_⟩:=(show Qv5 P w H h a (Qd4 P w a kvs) from ok a _ e)
 refine⟨z,y,xs,r,o,es,ep,h1,h2,h3,h4,fun x hx=>?_,h5⟩
 obtain⟨p,hp,e1,e2,_⟩:=Zt3 r x hx
 obtain⟨c,q1,q2⟩:=ks p hp
 rw[←e1,←e2]
 exact Xy6 ok q1 q2
theorem Xf4 {k:RKey}:∀{kvs:List RKv}{xs:List (RKey×Addr×Value)},Paired relR kvs xs→RelO ((Zz9 kvs k).map V.int) ((atKey xs k).map (·.2))
 | _,_,.nil=>by unfold Zz9 atKey;simp[RelO]
 | _,_,.cons (a:=p) (b:=q) r t=>by
  have ih:=Xf4 (k:=k) t
  unfold Zz9 atKey at ih ⊢
  rw[List.find?_cons,List.find?_cons,←r.1]
  by_cases e:p.1=k
  ·rw[decide_eq_true e]
   simp only[Option.map_some]
   exact r.2.2
  ·rw[decide_eq_false e]
   exact ih
section
variable {X:Cx}{pos:Pos}
def Yb2 (P:Program) (w:World):TE:=fun _ H Q=>∀p,H p=none→Q (.ref p) (upd H p (Qd4 P w p []))
theorem Xo6:PE X (.Dict [] [] pos) (Yb2 X.prog X.w):=fun pins s σ H Q I h =>
 wpAny_Dict_empty ⟨.ref s.heap.objs.size,_,I.laid (a:=s.heap.objs.size) (o:=Qd4 X.prog X.w s.heap.objs.size []) (t':=s.toks) (fun _ _ q=>Heap.get?_push_of_some _ q) (Nat.le_refl _)
  (Xy5 (xs:=[]) (Nat.zero_le _) (beq_eq_false_iff_ne.mpr (Ne.symm (Nat.ne_of_lt I.big))) (Heap.get?_push_size _ rfl) ⟨rfl,rfl,rfl⟩ rfl rfl List.nodup_nil .nil),rfl,h _ (I.hok.fresh (Nat.le_refl _))⟩
theorem Xs2:Qs0 X (.builtin "len") (fun xs H Q=>∃p kvs,xs=[.ref p]∧H p=some (Qd4 X.prog X.w p kvs)∧RestsOk H kvs∧Q (.int kvs.length) H):=by
 intro pins s σ H xs us Q I r h
 obtain⟨p,kvs,rfl,hp,hk,q⟩:=h
 obtain⟨u,rfl,rx⟩:=Zd9 r
 cases rx
 have hn:=Zf2
 obtain⟨z,hd,ys,rel,dd⟩:=Ze4 I.hok hp hk
 have hlen:=Paired.length rel
 exact Ze3 hd dd (by omega) ⟨.int kvs.length,H,I.tok _,⟨s.toks+1,by rw[hlen]⟩,q⟩
def Yv7 (P:Program) (w:World) (td ty tx:TE):TE:=fun σ H Q=>td σ H fun x H1=>∃a kvs0,x=.ref a∧H1 a=some (Qd4 P w a kvs0)∧RestsOk H1 kvs0∧ty σ H1 fun y H2=>tx σ H2 fun z H3 =>
 ∃(b c:Addr) (k:RKey) (kvs:List RKv) (n:Int),y=.ref b∧z=.int n∧H3 b=some (.tup [.int k.1,.ref c])∧H3 c=some (.tup (k.2.map V.int))∧H3 a=some (Qd4 P w a kvs)∧RestsOk H3 kvs∧kvs.length<sizeLine ∧
  (∀i,Zz9 kvs k=some i→Q (.int i) H3)∧(Zz9 kvs k=none→Q (.int n) (upd H3 a (Qd4 P w a (kvs++[(k,b,n)]))))
theorem Xs3 {o e f:Expr}{apos cpos:Pos}{td ty tx:TE} (hu:X.A.units+20<cLine) (ho:PE X o td) (he:PE X e ty) (hf:PE X f tx) (m:M2 X o "setdefault" apos e f cpos):PE X (.Call (.Attribute o "setdefault" apos) [e,f] [] cpos) (Yv7 X.prog X.w td ty tx):=by
 intro pins s σ H Q I h
 refine wpAny_Call_method m.base m.few m.line PySem.F.plainAttrs_dict PySem.F.slot_dict_setdefault PySem.F.type_dict_setdefault (thn (ho pins s σ H _ I h) fun u s1 ⟨x,H1,I1,rx,a,kvs0,ex,ha,hk0,q1⟩=>?_)
 subst ex
 obtain rfl:u=Value.ref a:=rx
 obtain⟨_,hd0,ys,_,dd0⟩:=Ze4 I1.hok ha hk0
 refine⟨dd0.typeIs,fun b q=>?_,?_⟩
 ·cases q
  obtain⟨ob,_,_,h1,h2,_⟩:=dd0
  exact⟨ob,h1,h2.2.1⟩
 rw[m.trees]
 refine Calls.callWith_builtin rfl (Calls.evalArgs_plain (Calls.spliced_cons (thn (he pins s1 σ H1 _ I1 q1) fun iv s2 ⟨y,H2,I2,ry,q2⟩ =>
  Calls.spliced_cons (thn (hf pins s2 σ H2 _ I2 q2) fun fv s3 ⟨z,H3,I3,rz,b,c,k,kvs,n,ey,ez,hb,hc,ha3,hk,hl,q3,q4⟩=>Calls.spliced_nil ?_))))
 subst ey ez
 obtain rfl:iv=Value.ref b:=ry
 obtain⟨z,hd,xs,rel,dd⟩:=Ze4 I3.hok ha3 hk
 have hlen:=Paired.length rel
 have hlook:=Xf4 (k:=k) rel
 refine call_meetsIn PySem.F.slot_dict_setdefault dd.typeIs PySem.F.entry_dict_setdefault (PySem.F.args_dict_setdefault_3 _ _ _) (Zy2 (knd:=Qo3 X.prog X.w) a b hd fv) ⟨(by show X.A.units+1+5<cLine;omega),k,xs,Xy6 I3.hok hb hc,dd,by omega,fun p hp=>?_,fun hno h' dd' hs=>?_⟩
 ·rw[hp]at hlook
  cases hq:Zz9 kvs k with
  | none=>rw[hq]at hlook;exact hlook.elim
  | some i =>
   rw[hq]at hlook
   exact⟨.int i,H3,I3.tok _,hlook,q3 i hq⟩
 ·rw[hno]at hlook
  cases hq:Zz9 kvs k with
  | some i=>rw[hq]at hlook;exact hlook.elim
  | none =>
   obtain⟨o',es',ep',h1,h2,h3,h4,h5,h6⟩:=dd'
   refine⟨.int n,_,I3.write (x:=a) (e:=a) (t':=s3.toks+(Qo3 X.prog X.w).draws k) (by rw[ha3];exact True.intro) (.inl rfl) (fun b' q hb' z'=>(hs.2 b' hb').trans z') ⟨_,h1⟩ (Xy5 (kvs:=kvs++[(k,b,n)]) (by rw[List.length_append];show kvs.length+1≤sizeLine;omega) hd h1 h2 h3 h4 h6 ?_),rz,q4 hq⟩
   have app:∀{l:List RKv}{m:List (RKey×Addr×Value)},Paired relR l m→Paired relR (l++[(k,b,n)]) (m++[(k,b,fv)]):=by
    intro l m r
    induction r with
    | nil=>exact .cons ⟨rfl,rfl,rz⟩ .nil
    | cons r t ih=>exact .cons r ih
   exact app rel
end
end L2
namespace L2
open PySem PySem.Spec PyProof.Rows
abbrev Qg7 (h:Heap) (T:Addr) (a b c:Value):Prop:=h.get? T=some { cls:=.type "tuple",data:=.seq #[a,b,c] }
structure Z3 (z TI TO i1 i2 i3:Addr) (ls:List Addr):Prop where
 TIz:TI≠z
 TOz:TO≠z
 i1z:i1≠z
 i2z:i2≠z
 i3z:i3≠z
 TITO:TI≠TO
 TIi1:TI≠i1
 TIi2:TI≠i2
 TIi3:TI≠i3
 TOi1:TO≠i1
 TOi2:TO≠i2
 TOi3:TO≠i3
 i12:i1≠i2
 i13:i1≠i3
 i23:i2≠i3
 ap:∀l∈ls,l≠z∧l≠TO∧l≠i1∧l≠i2∧l≠i3
section
variable {prog:Program}{w:World}{A:Around}{E:Value→Shared→Prop}{s:Shared}
theorem Ze5 {T:Addr}{a b c x:Value}{k:Nat}{Q:Unit→Shared→Prop} (hT:Qg7 s.heap T a b c)
  (h:∀h',h'.get? T=some { cls:=.type "tuple",data:=.seq ((#[a,b,c]:Array Value).setIfInBounds k x) }→Heap.SameBut T s.heap h'→Q () { s with heap:=h' }) :
  wpAny (model prog w) A (updateSeq T (·.setIfInBounds k x)) Q E s:=by
 refine wpAny_updateSeq hT rfl (h _ ?_ (Heap.SameBut.update ..))
 rw[Heap.get?_update_self _ hT rfl]
 simp[Obj.mapSeq]
theorem Xs4 {z TI TO i1 i2 i3 l1 l2 l3:Addr}{k:Nat}{xs ys zs:Array Value}{x y y3 a b c:Value}{Q:Value→Shared→Prop} (D:Z3 z TI TO i1 i2 i3 [l1,l2,l3])
  (hz:IsZip s.heap z TI TO .none) (hTI:Qg7 s.heap TI (.ref i1) (.ref i2) (.ref i3)) (hTO:Qg7 s.heap TO a b c)
  (h1:s.heap.IsListIter i1 l1 k) (h2:s.heap.IsListIter i2 l2 k) (h3:s.heap.IsListIter i3 l3 k) (hl1:s.heap.IsList l1 xs) (hl2:s.heap.IsList l2 ys) (hl3:s.heap.IsList l3 zs) (hx:xs[k]?=some x) (hy:ys[k]?=some y) (hy3:zs[k]?=some y3)
  (hQ:∀h',IsZip h' z TI TO (rawInt s.heap.objs.size)→Qg7 h' TO x y y3→h'.IsListIter i1 l1 (k+1)→h'.IsListIter i2 l2 (k+1)→h'.IsListIter i3 l3 (k+1)→Qg7 h' s.heap.objs.size x y y3→h'.objs.size=s.heap.objs.size+1 →
   (∀d o,d≠z→d≠TO→d≠i1→d≠i2→d≠i3→s.heap.get? d=some o→h'.get? d=some o)→Q (.ref s.heap.objs.size) { s with heap:=h' }) :
  wpAny (model prog w) A (Builtin.«zip.__next__» ⟨[.ref z],[]⟩) (fun fin s'=>∃v,fin=.done (.ret v)∧Q v s') E s:=by
 obtain⟨p1z,p1t,p11,p12,p13⟩:=D.ap l1 (by simp)
 obtain⟨p2z,p2t,p21,p22,p23⟩:=D.ap l2 (by simp)
 obtain⟨p3z,p3t,p31,p32,p33⟩:=D.ap l3 (by simp)
 show wpAny _ _ (field (.ref z) 2 >>= _) _ _ _
 refine wpAny_bind (wpAny_field hz rfl (x:=.bool false) rfl ?_)
 show wpAny _ _ (field (.ref z) 3 >>= _) _ _ _
 refine wpAny_bind (wpAny_field hz rfl (x:=.ref TI) rfl ?_)
 refine wpAny_bind (wpAny_seqItems hTI rfl ?_)
 show wpAny _ _ (Builtin.SmallTypes.ownedTupleIsFree (.ref z) >>= _) _ _ _
 refine wpAny_bind ?_
 unfold Builtin.SmallTypes.ownedTupleIsFree
 refine wpAny_bind (wpAny_field hz rfl (x:=.none) rfl (wpAny_pure ?_))
 simp only[if_true]
 refine wpAny_bind (wpAny_rule ?_)
 refine wpAny_bind (wpAny_field hz rfl (x:=.ref TO) rfl ?_)
 refine wpAny_bind (wpAny_setField_rec hz (by simp) fun g1 hz1 e1=>?_)
 replace hz1:IsZip g1 z TI TO .ellipsis:=hz1
 refine wpAny_bind ?_
 simp only[List.zipIdx_cons,List.zipIdx_nil,List.forIn_cons,List.forIn_nil]
 refine wpAny_bind (wpAny_bind (wpAny_onRaise ?_))
 show wpAny _ _ (Builtin.SmallTypes.nextOf (.ref i1) >>= _) _ _ _
 refine wpAny_bind (wpAny_nextOf_list_item (h1.extBut e1.extBut D.i1z) (hl1.extBut e1.extBut p1z) hx fun g2 h12 e2=>wpAny_pure ?_)
 have t2:Qg7 g2 TO a b c:=e2.extBut _ _ D.TOi1 (e1.extBut _ _ D.TOz hTO)
 refine wpAny_bind (wpAny_seqItems t2 rfl ?_)
 refine wpAny_bind (Ze5 t2 fun g3 t3 e3=>?_)
 replace t3:Qg7 g3 TO x b c:=t3
 refine wpAny_bind (wpAny_letGo (wpAny_pure ?_))
 refine wpAny_bind (wpAny_bind (wpAny_onRaise ?_))
 show wpAny _ _ (Builtin.SmallTypes.nextOf (.ref i2) >>= _) _ _ _
 refine wpAny_bind (wpAny_nextOf_list_item (((h2.extBut e1.extBut D.i2z).extBut e2.extBut D.i12.symm).extBut e3.extBut D.TOi2.symm) (((hl2.extBut e1.extBut p2z).extBut e2.extBut p21).extBut e3.extBut p2t) hy fun g4 h24 e4=>wpAny_pure ?_)
 have t4:Qg7 g4 TO x b c:=e4.extBut _ _ D.TOi2 t3
 refine wpAny_bind (wpAny_seqItems t4 rfl ?_)
 refine wpAny_bind (Ze5 t4 fun g5 t5 e5=>?_)
 replace t5:Qg7 g5 TO x y c:=t5
 refine wpAny_bind (wpAny_letGo (wpAny_pure ?_))
 refine wpAny_bind (wpAny_bind (wpAny_onRaise ?_))
 show wpAny _ _ (Builtin.SmallTypes.nextOf (.ref i3) >>= _) _ _ _
 refine wpAny_bind (wpAny_nextOf_list_item (((((h3.extBut e1.extBut D.i3z).extBut e2.extBut D.i13.symm).extBut e3.extBut D.TOi3.symm).extBut e4.extBut D.i23.symm).extBut e5.extBut D.TOi3.symm) (((((hl3.extBut e1.extBut p3z).extBut e2.extBut p31).extBut e3.extBut p3t).extBut e4.extBut p32).extBut e5.extBut p3t) hy3 fun g6 h36 e6=>wpAny_pure ?_)
 have t6:Qg7 g6 TO x y c:=e6.extBut _ _ D.TOi3 t5
 refine wpAny_bind (wpAny_seqItems t6 rfl ?_)
 refine wpAny_bind (Ze5 t6 fun g7 t7 e7=>?_)
 replace t7:Qg7 g7 TO x y y3:=t7
 refine wpAny_bind (wpAny_letGo (wpAny_pure (wpAny_pure ?_)))
 refine wpAny_bind (wpAny_seqItems t7 rfl ?_)
 refine wpAny_bind (wpAny_newTuple ?_)
 have hsz:g7.objs.size=s.heap.objs.size:=by rw[e7.1,e6.1,e5.1,e4.1,e3.1,e2.1,e1.1]
 have keep:∀d o,d≠TO→d≠i1→d≠i2→d≠i3→g1.get? d=some o→g7.get? d=some o:=fun d o d1 d2 d3 d4 e =>
  e7.extBut _ _ d1 (e6.extBut _ _ d4 (e5.extBut _ _ d1 (e4.extBut _ _ d3 (e3.extBut _ _ d1 (e2.extBut _ _ d2 e)))))
 have hz7:IsZip g7 z TI TO .ellipsis:=keep _ _ D.TOz.symm D.i1z.symm D.i2z.symm D.i3z.symm hz1
 have k1:g7.IsListIter i1 l1 (k+1):=((((h12.extBut e3.extBut D.TOi1.symm).extBut e4.extBut D.i12).extBut e5.extBut D.TOi1.symm).extBut e6.extBut D.i13).extBut e7.extBut D.TOi1.symm
 have k2:g7.IsListIter i2 l2 (k+1):=((h24.extBut e5.extBut D.TOi2.symm).extBut e6.extBut D.i23).extBut e7.extBut D.TOi2.symm
 have k3:g7.IsListIter i3 l3 (k+1):=h36.extBut e7.extBut D.TOi3.symm
 have hzlt:z<g7.objs.size:=Heap.lt_size hz7
 show wpAny _ _ (Builtin.SmallTypes.ownedTupleHandOut (.ref z) (.ref g7.objs.size) >>= _) _ _ _
 refine wpAny_bind ?_
 unfold Builtin.SmallTypes.ownedTupleHandOut
 have hz8:IsZip (g7.push { cls:=.type "tuple",data:=.seq #[x,y,y3] }) z TI TO .ellipsis:=Heap.get?_push_of_some _ hz7
 refine wpAny_bind (wpAny_setField_rec hz8 (by simp) fun g9 hz9 e9=>?_)
 replace hz9:IsZip g9 z TI TO (rawInt g7.objs.size):=hz9
 refine wpAny_setField_rec hz9 (by simp) fun gA hzA eA=>?_
 replace hzA:IsZip gA z TI TO (rawInt g7.objs.size):=hzA
 have up:∀d o,d≠z→g7.get? d=some o→gA.get? d=some o:=fun d o d1 e=>eA.extBut _ _ d1 (e9.extBut _ _ d1 (Heap.get?_push_of_some _ e))
 have tA:Qg7 gA g7.objs.size x y y3:=eA.extBut _ _ (Nat.ne_of_gt hzlt) (e9.extBut _ _ (Nat.ne_of_gt hzlt) (Heap.get?_push_size _ rfl))
 have szA:gA.objs.size=g7.objs.size+1:=by rw[eA.1,e9.1,Heap.size_push]
 rw[hsz]at hzA tA szA
 refine wpAny_pure ⟨_,rfl,?_⟩
 show Q (.ref g7.objs.size) _
 rw[hsz]
 exact hQ gA hzA (up _ _ D.TOz t7) (k1.at fun o e=>up _ o D.i1z e) (k2.at fun o e=>up _ o D.i2z e) (k3.at fun o e=>up _ o D.i3z e) tA szA fun d o d1 d2 d3 d4 d5 e=>up d o d1 (keep d o d2 d3 d4 d5 (e1.extBut _ _ d1 e))
theorem Xo7 {z TI TO i1 i2 i3 l1 l2 l3:Addr}{k:Nat}{xs:Array Value}{Q:Fin→Shared→Prop} (hh:A.handled=none) (D:Z3 z TI TO i1 i2 i3 [l1,l2,l3])
  (hz:IsZip s.heap z TI TO .none) (hTI:Qg7 s.heap TI (.ref i1) (.ref i2) (.ref i3)) (h1:s.heap.IsListIter i1 l1 k) (hl1:s.heap.IsList l1 xs) (hx:xs[k]?=none)
  (hE:∀h' e,(∀d o,d≠z→d≠i1→s.heap.get? d=some o→h'.get? d=some o)→(∃o,h'.get? e=some o∧o.cls=.type "StopIteration")→E (.ref e) { s with heap:=h' }) :
  wpAny (model prog w) A (Builtin.«zip.__next__» ⟨[.ref z],[]⟩) Q E s:=by
 obtain⟨p1z,_⟩:=D.ap l1 (by simp)
 show wpAny _ _ (field (.ref z) 2 >>= _) _ _ _
 refine wpAny_bind (wpAny_field hz rfl (x:=.bool false) rfl ?_)
 show wpAny _ _ (field (.ref z) 3 >>= _) _ _ _
 refine wpAny_bind (wpAny_field hz rfl (x:=.ref TI) rfl ?_)
 refine wpAny_bind (wpAny_seqItems hTI rfl ?_)
 show wpAny _ _ (Builtin.SmallTypes.ownedTupleIsFree (.ref z) >>= _) _ _ _
 refine wpAny_bind ?_
 unfold Builtin.SmallTypes.ownedTupleIsFree
 refine wpAny_bind (wpAny_field hz rfl (x:=.none) rfl (wpAny_pure ?_))
 simp only[if_true]
 refine wpAny_bind (wpAny_rule ?_)
 refine wpAny_bind (wpAny_field hz rfl (x:=.ref TO) rfl ?_)
 refine wpAny_bind (wpAny_setField_rec hz (by simp) fun g1 hz1 e1=>?_)
 replace hz1:IsZip g1 z TI TO .ellipsis:=hz1
 refine wpAny_bind ?_
 simp only[List.zipIdx_cons,List.zipIdx_nil,List.forIn_cons,List.forIn_nil]
 refine wpAny_bind (wpAny_bind (wpAny_onRaise ?_))
 show wpAny _ _ (Builtin.SmallTypes.nextOf (.ref i1) >>= _) _ _ _
 refine wpAny_bind (wpAny_nextOf_list_end hh (h1.extBut e1.extBut D.i1z) (hl1.extBut e1.extBut p1z) hx fun g2 e e2 he=>?_)
 obtain⟨oe,hoe,hce⟩:=he
 have hz2:IsZip g2 z TI TO .ellipsis:=e2 _ _ D.i1z.symm hz1
 have hez:e≠z:=fun x=>by subst x;rw[hz2]at hoe;cases hoe;simp at hce
 refine wpAny_setField_rec hz2 (by simp) fun g3 _ e3=>hE g3 e (fun d o d1 d3 x=>e3.extBut _ _ d1 (e2 _ _ d3 (e1.extBut _ _ d1 x))) ⟨oe,e3.extBut _ _ hez hoe,hce⟩
theorem Xs5 {z TI TO i1 i2 i3 l1 l2 l3:Addr}{k:Nat}{xs ys zs:Array Value}{x y y3 a b c:Value}{Q:Option Value→Shared→Prop} (D:Z3 z TI TO i1 i2 i3 [l1,l2,l3])
  (hz:IsZip s.heap z TI TO .none) (hTI:Qg7 s.heap TI (.ref i1) (.ref i2) (.ref i3)) (hTO:Qg7 s.heap TO a b c)
  (h1:s.heap.IsListIter i1 l1 k) (h2:s.heap.IsListIter i2 l2 k) (h3:s.heap.IsListIter i3 l3 k) (hl1:s.heap.IsList l1 xs) (hl2:s.heap.IsList l2 ys) (hl3:s.heap.IsList l3 zs) (hx:xs[k]?=some x) (hy:ys[k]?=some y) (hy3:zs[k]?=some y3)
  (hQ:∀h',IsZip h' z TI TO (rawInt s.heap.objs.size)→Qg7 h' TO x y y3→h'.IsListIter i1 l1 (k+1)→h'.IsListIter i2 l2 (k+1)→h'.IsListIter i3 l3 (k+1)→Qg7 h' s.heap.objs.size x y y3→h'.objs.size=s.heap.objs.size+1 →
   (∀d o,d≠z→d≠TO→d≠i1→d≠i2→d≠i3→s.heap.get? d=some o→h'.get? d=some o)→Q (some (.ref s.heap.objs.size)) { s with heap:=h' }) :
  wpAny (model prog w) A (pyNext (.ref z)) Q E s:=by
 have hT:s.TypeIs (.ref z) "zip" := ⟨_,hz,rfl⟩
 unfold pyNext
 exact wpAny_bind (wpAny_attempt (wpAny_callSpecial?_slot (name:=Str.ofString "__next__") hT F.slot_zip_next
  (wpAny_call_entry F.slot_zip_next hT F.entry_zip_next
   (Xs4 D hz hTI hTO h1 h2 h3 hl1 hl2 hl3 hx hy hy3 fun h' a1 a2 a3 a4 a5 a6 a7 a8=>wpAny_pure (hQ h' a1 a2 a3 a4 a5 a6 a7 a8)) (F.args_zip_next_1 _))))
theorem Xs6 {z TI TO i1 i2 i3 l1 l2 l3:Addr}{k:Nat}{xs:Array Value}{Q:Option Value→Shared→Prop} (hh:A.handled=none) (D:Z3 z TI TO i1 i2 i3 [l1,l2,l3])
  (hz:IsZip s.heap z TI TO .none) (hTI:Qg7 s.heap TI (.ref i1) (.ref i2) (.ref i3)) (h1:s.heap.IsListIter i1 l1 k) (hl1:s.heap.IsList l1 xs) (hx:xs[k]?=none)
  (hQ:∀h',(∀d o,d≠z→d≠i1→s.heap.get? d=some o→h'.get? d=some o)→Q none { s with heap:=h' }):wpAny (model prog w) A (pyNext (.ref z)) Q E s:=by
 have hT:s.TypeIs (.ref z) "zip" := ⟨_,hz,rfl⟩
 unfold pyNext
 refine wpAny_bind (wpAny_attempt (wpAny_callSpecial?_slot (name:=Str.ofString "__next__") hT F.slot_zip_next
  (wpAny_call_entry F.slot_zip_next hT F.entry_zip_next (Xo7 hh D hz hTI h1 hl1 hx fun h' e hk he=>?_) (F.args_zip_next_1 _))))
 obtain⟨o,ho,hc⟩:=he
 refine wpAny_bind (wpAny_isInstance (T := "StopIteration") (b:=true) ⟨o,ho,hc⟩ isSubtype_stop ?_)
 exact wpAny_pure (hQ _ hk)
end
def Itz3 (K:PySem.W.Frag) (a b c:Addr):It :=
 ⟨fun i H=>∃xs ys zs x y z,SqL K H a xs∧SqL K H b ys∧SqL K H c zs∧xs[i]?=some x∧ys[i]?=some y∧zs[i]?=some z,
  fun i H v H'=>∃p x y z,v=.ref p∧H p=none∧H'=upd H p (.tup [x,y,z])∧(∀xs,SqL K H a xs→xs[i]?=some x)∧(∀ys,SqL K H b ys→ys[i]?=some y)∧∀zs,SqL K H c zs→zs[i]?=some z,
  fun i H=>∃xs,SqL K H a xs∧xs.length≤i⟩
theorem Xs7 {P:Program}{w:World}{K:PySem.W.Frag}{elts:List Expr}{x1:Nat}{pos:Pos}{z TI TO i1 i2 i3 l1 l2 l3:Addr} (D:Z3 z TI TO i1 i2 i3 [l1,l2,l3]) :
  Turn P w K (.Tuple elts x1 pos) (Itz3 K l1 l2 l3) [z,TI,TO,i1,i2,i3] z (fun i h=>IsZip h z TI TO .none∧Qg7 h TI (.ref i1) (.ref i2) (.ref i3)∧(∃a b c,Qg7 h TO a b c)∧h.IsListIter i1 l1 i∧h.IsListIter i2 l2 i∧h.IsListIter i3 l3 i) where
 mem:=by simp
 obj:=fun i h st b hb=>by
  obtain⟨h1,h2,⟨a,b',c',h3⟩,⟨o4,e4,c4,d4⟩,⟨o5,e5,c5,d5⟩,⟨o6,e6,c6,d6⟩⟩:=st
  have hb':b=z∨b=TI∨b=TO∨b=i1∨b=i2∨b=i3:=by simpa using hb
  rcases hb' with e|e|e|e|e|e<;>subst e
  ·exact⟨_,h1,fun v q=>by
    have q':Data.fields _=Data.cell v:=q
    cases q'⟩
  ·exact⟨_,h2,fun v q=>by
    have q':Data.seq _ _=Data.cell v:=q
    cases q'⟩
  ·exact⟨_,h3,fun v q=>by
    have q':Data.seq _ _=Data.cell v:=q
    cases q'⟩
  ·exact⟨o4,e4,fun v q=>by rw[d4]at q;cases q⟩
  ·exact⟨o5,e5,fun v q=>by rw[d5]at q;cases q⟩
  ·exact⟨o6,e6,fun v q=>by rw[d6]at q;cases q⟩
 keep:=fun i h h' st k=>by
  obtain⟨h1,h2,⟨a,b',c',h3⟩,h4,h5,h6⟩:=st
  exact⟨k z (by simp) _ h1,k TI (by simp) _ h2,⟨a,b',c',k TO (by simp) _ h3⟩,h4.at fun o e=>k i1 (by simp) o e,h5.at fun o e=>k i2 (by simp) o e,h6.at fun o e=>k i3 (by simp) o e⟩
 item:=by
  intro X hP hw hK hc i pins s σ H E I hf st hg
  subst hP hw hK
  obtain⟨xs,ys,zs,x,y,y3,hq1,hq2,hq3,hx,hy,hy3⟩:=hg
  obtain⟨its1,rv1,p1,hz1⟩:=I.list hq1
  obtain⟨its2,rv2,p2,hz2⟩:=I.list hq2
  obtain⟨its3,rv3,p3,hz3⟩:=I.list hq3
  obtain⟨u1,hu1,ru1⟩:=rv1.get hx
  obtain⟨u2,hu2,ru2⟩:=rv2.get hy
  obtain⟨u3,hu3,ru3⟩:=rv3.get hy3
  obtain⟨h1,h2,⟨a,b',c',h3⟩,h4,h5,h6⟩:=st
  have hlt:∀{c:Addr}{o:Obj},s.heap.get? c=some o→c≠s.heap.objs.size:=fun e=>Nat.ne_of_lt (Heap.lt_size e)
  have n4:i1≠s.heap.objs.size:=by obtain⟨o,e,_⟩:=id h4;exact hlt e
  have n5:i2≠s.heap.objs.size:=by obtain⟨o,e,_⟩:=id h5;exact hlt e
  have n6:i3≠s.heap.objs.size:=by obtain⟨o,e,_⟩:=id h6;exact hlt e
  refine Xs5 D h1 h2 h3 h4 h5 h6 p1.isList p2.isList p3.isList (x:=u1) (y:=u2) (y3:=u3) (by simpa using hu1) (by simpa using hu2) (by simpa using hu3) fun h' a1 a2 a3 a4 a5 a6 a7 a8=>?_
  have I1:Inv X pins σ (upd H s.heap.objs.size (.tup [x,y,y3])) { s with heap:=h' }:=I.turnedL (t':=s.toks) (ch:=[z,TI,TO,i1,i2,i3]) (fun b o hb e=>a8 b o (fun q=>hb (by simp[q])) (fun q=>hb (by simp[q])) (fun q=>hb (by simp[q])) (fun q=>hb (by simp[q])) (fun q=>hb (by simp[q])) e) hf (Nat.le_refl _)
   ⟨by show 3≤sizeLine;decide,[u1,u2,u3],.cons ru1 (.cons ru2 (.cons ru3 .nil)),⟨_,a6,rfl,_,rfl⟩⟩
  have hf1:∀b∈[z,TI,TO,i1,i2,i3],FpOk X pins (upd H s.heap.objs.size (.tup [x,y,y3])) b:=fun b hb=>(hf b hb).upd (by
   have hb':b=z∨b=TI∨b=TO∨b=i1∨b=i2∨b=i3:=by simpa using hb
   rcases hb' with e|e|e|e|e|e<;>subst e
   ·exact hlt h1
   ·exact hlt h2
   ·exact hlt h3
   ·exact n4
   ·exact n5
   ·exact n6)
  refine⟨_,rfl,wpAny_letOwnedTupleGo_zip (s:={ s with heap:=h' }) a1 fun h2' a1' sb=>?_⟩
  have I2:Inv X pins σ (upd H s.heap.objs.size (.tup [x,y,y3])) { s with heap:=h2' }:=I1.turnedS (s:={ s with heap:=h' }) (t':=s.toks) (ch:=[z,TI,TO,i1,i2,i3]) (fun b o hb e=>(sb.2 b fun q=>hb (by simp[q])).trans e) hf1
  have h2e:Qg7 h' TI (.ref i1) (.ref i2) (.ref i3):=a8 _ _ D.TIz D.TITO D.TIi1 D.TIi2 D.TIi3 h2
  exact⟨.ref s.heap.objs.size,_,I2,rfl,⟨_,x,y,y3,rfl,I.hok.fresh (Nat.le_refl _),rfl,fun ws hz=>by rw[I.list_inj hz hq1];exact hx,fun ws hz=>by rw[I.list_inj hz hq2];exact hy,fun ws hz=>by rw[I.list_inj hz hq3];exact hy3⟩,
   ⟨a1',(sb.2 _ D.TIz).trans h2e,⟨_,_,_,(sb.2 _ D.TOz).trans a2⟩,a3.at fun o e=>(sb.2 _ D.i1z).trans e,a4.at fun o e=>(sb.2 _ D.i2z).trans e,a5.at fun o e=>(sb.2 _ D.i3z).trans e⟩,fun b hb=>(hf1 b hb).1⟩
 done:=by
  intro X hP hw hK hc i pins s σ H E I hf st hg
  subst hP hw hK
  obtain⟨xs,hq1,hend⟩:=hg
  obtain⟨its1,rv1,p1,hz1⟩:=I.list hq1
  obtain⟨h1,h2,⟨a,b',c',h3⟩,h4,h5,h6⟩:=st
  have hl1:=rv1.length
  exact Xs6 (I.ok.hd hc) D h1 h2 h4 p1.isList (by simp;omega) fun h' eb=>⟨rfl,I.turnedS (t':=s.toks) (ch:=[z,TI,TO,i1,i2,i3]) (fun b o hb e=>eb b o (fun q=>hb (by simp[q])) (fun q=>hb (by simp[q])) e) hf⟩
 self:=fun _ _ _ _ _ st h=>wpAny_pyIter_zip st.1 h
theorem Yv8 (a b c:Value):checkTypeCall "zip" ⟨[a,b,c],[]⟩=pure ():=by kernel_rfl
theorem Yv9 (a b c:Value):checkBuiltinCall "zip.__new__" ⟨[.type "zip",a,b,c],[]⟩=pure ():=by kernel_rfl
theorem Xo8 (a b c d:Value):argsOk "object.__init__" ⟨[a,b,c,d],[]⟩:=by
 unfold argsOk;rw[signature?_of (id := "object.__init__") (n:=['_','_','t','i','n','i','_','_']) (o:=['t','c','e','j','b','o']) (by kernel_rfl) F.owner_object];kernel_rfl
abbrev lit0 (l:Addr):Obj:={ cls:=.type "list_iterator",data:=.fields #[.ref l,.int 0 0] }
abbrev z3A (h:Heap) (l1:Addr):Heap:=h.push (lit0 l1)
abbrev z3B (h:Heap) (l1 l2:Addr):Heap:=(z3A h l1).push (lit0 l2)
abbrev z3C (h:Heap) (l1 l2 l3:Addr):Heap:=(z3B h l1 l2).push (lit0 l3)
abbrev z3D (h:Heap) (l1 l2 l3:Addr):Heap:=(z3C h l1 l2 l3).push { cls:=.type "tuple",data:=.seq #[.ref h.objs.size,.ref (z3A h l1).objs.size,.ref (z3B h l1 l2).objs.size] }
abbrev z3E (h:Heap) (l1 l2 l3:Addr):Heap:=(z3D h l1 l2 l3).push { cls:=.type "tuple",data:=.seq #[.none,.none,.none] }
abbrev z3F (h:Heap) (l1 l2 l3:Addr):Heap:=(z3E h l1 l2 l3).push { cls:=.type "zip",data:=.fields #[.none,.bool false,.bool false,.ref (z3C h l1 l2 l3).objs.size,.ref (z3D h l1 l2 l3).objs.size] }
theorem Xd6 (l1 l2 l3:Addr) (xs ys zs:Array Value) :
  Meets (Builtin.«zip.__new__» ⟨[.type "zip",.ref l1,.ref l2,.ref l3],[]⟩) (fun _ R s=>s.heap.IsList l1 xs∧s.heap.IsList l2 ys∧s.heap.IsList l3 zs ∧
   R (.ok (.ret (.ref (z3E s.heap l1 l2 l3).objs.size))) { s with heap:=z3F s.heap l1 l2 l3 }) :=
 .of_wp fun prog w A R s h=>by
  obtain⟨hp,g,d,tk,os⟩:=s;obtain⟨hl1,hl2,hl3,h⟩:=h
  have hsub:=sub_zip
  have hL1:Heap.IsList (Shared.heap ⟨hp,g,d,tk,os⟩) l1 xs:=hl1
  have hL2:Heap.IsList (Shared.heap ⟨hp.push { cls:=.type "list_iterator",data:=.fields #[.ref l1,.int 0 0] },g,d,tk,os⟩) l2 ys:=Heap.IsList.push hl2 _
  have hL3:Heap.IsList (Shared.heap ⟨(hp.push { cls:=.type "list_iterator",data:=.fields #[.ref l1,.int 0 0] }).push { cls:=.type "list_iterator",data:=.fields #[.ref l2,.int 0 0] },g,d,tk,os⟩) l3 zs:=Heap.IsList.push (Heap.IsList.push hl3 _) _
  wp_walk using wpAny_pyIter_list hL1,wpAny_pyIter_list hL2,wpAny_pyIter_list hL3
  exact⟨_,rfl,h⟩
section
variable {prog:Program}{w:World}{A:Around}{E:Value→Shared→Prop}{s:Shared}
theorem Xs8 {l1 l2 l3:Addr}{xs ys zs:Array Value}{Q:Value→Shared→Prop} (hl1:s.heap.IsList l1 xs) (hl2:s.heap.IsList l2 ys) (hl3:s.heap.IsList l3 zs)
  (h:∀h',IsZip h' (s.heap.objs.size+5) (s.heap.objs.size+3) (s.heap.objs.size+4) .none→Qg7 h' (s.heap.objs.size+3) (.ref s.heap.objs.size) (.ref (s.heap.objs.size+1)) (.ref (s.heap.objs.size+2)) →
   Qg7 h' (s.heap.objs.size+4) .none .none .none→h'.IsListIter s.heap.objs.size l1 0→h'.IsListIter (s.heap.objs.size+1) l2 0→h'.IsListIter (s.heap.objs.size+2) l3 0 →
   (∀c o,s.heap.get? c=some o→h'.get? c=some o)→Q (.ref (s.heap.objs.size+5)) { s with heap:=h' }) :
  wpAny (model prog w) A (call (.type "zip") [.ref l1,.ref l2,.ref l3]) Q E s:=by
 refine callType_new F.called_zip (by decide) (Yv8 _ _ _) (Yv9 _ _ _) (fun obj=>Xo8 obj _ _ _) F.entry_zip_new (Xd6 l1 l2 l3 xs ys zs) ⟨hl1,hl2,hl3,?_⟩
 have z1:(z3A s.heap l1).objs.size=s.heap.objs.size+1:=Heap.size_push ..
 have z2:(z3B s.heap l1 l2).objs.size=s.heap.objs.size+2:=by rw[Heap.size_push,z1]
 have z3:(z3C s.heap l1 l2 l3).objs.size=s.heap.objs.size+3:=by rw[Heap.size_push,z2]
 have z4:(z3D s.heap l1 l2 l3).objs.size=s.heap.objs.size+4:=by rw[Heap.size_push,z3]
 have z5:(z3E s.heap l1 l2 l3).objs.size=s.heap.objs.size+5:=by rw[Heap.size_push,z4]
 have gF:(z3F s.heap l1 l2 l3).get? (z3E s.heap l1 l2 l3).objs.size=some _:=Heap.get?_push_size _ rfl
 have gE:(z3F s.heap l1 l2 l3).get? (z3D s.heap l1 l2 l3).objs.size=some _:=Heap.get?_push_of_some _ (Heap.get?_push_size _ rfl)
 have gD:(z3F s.heap l1 l2 l3).get? (z3C s.heap l1 l2 l3).objs.size=some _:=Heap.get?_push_of_some _ (Heap.get?_push_of_some _ (Heap.get?_push_size _ rfl))
 have gC:(z3F s.heap l1 l2 l3).get? (z3B s.heap l1 l2).objs.size=some _:=Heap.get?_push_of_some _ (Heap.get?_push_of_some _ (Heap.get?_push_of_some _ (Heap.get?_push_size _ rfl)))
 have gB:(z3F s.heap l1 l2 l3).get? (z3A s.heap l1).objs.size=some _:=Heap.get?_push_of_some _ (Heap.get?_push_of_some _ (Heap.get?_push_of_some _ (Heap.get?_push_of_some _ (Heap.get?_push_size _ rfl))))
 have gA:(z3F s.heap l1 l2 l3).get? s.heap.objs.size=some _:=Heap.get?_push_of_some _ (Heap.get?_push_of_some _ (Heap.get?_push_of_some _ (Heap.get?_push_of_some _ (Heap.get?_push_of_some _ (Heap.get?_push_size _ rfl)))))
 show _∧_
 rw[z3,z4,z5]at gF
 rw[z1,z2,z3]at gD
 rw[z4]at gE
 rw[z2]at gC
 rw[z1]at gB
 rw[z5]
 exact⟨⟨_,gF,rfl⟩,h _ gF gD gE ⟨_,gA,rfl,rfl⟩ ⟨_,gB,rfl,rfl⟩ ⟨_,gC,rfl,rfl⟩ fun c o x =>
  Heap.get?_push_of_some _ (Heap.get?_push_of_some _ (Heap.get?_push_of_some _ (Heap.get?_push_of_some _ (Heap.get?_push_of_some _ (Heap.get?_push_of_some _ x)))))⟩
end
section
variable {X:Cx}{elts:List Expr}{x1:Nat}{pos:Pos}
def Yf8 (K:PySem.W.Frag) (ta:TA):TI:=fun σ H R=>ta σ H fun vs H1=>∃a b c,vs=[.ref a,.ref b,.ref c]∧(∃xs,SqL K H1 a xs)∧(∃ys,SqL K H1 b ys)∧(∃zs,SqL K H1 c zs)∧R (Itz3 K a b c) H1
theorem Xo9 (K:PySem.W.Frag) {a b c:Expr}{ta:TA}{p q:Pos} (hg:Gl X "zip") (hm:X.mg "zip" = none) (ha:PA X [a,b,c] ta) (hK:X.K=K:=by rfl) (hs:starEach [a,b,c] X.env=(false,eval a X.env)::starEach [b,c] X.env:=by rfl) (hpl:(backTo q (starEach [b,c] X.env)).any (·.1)=false:=by rfl) :
  PI X (.Tuple elts x1 pos) (.Call (.Name "zip" p) [a,b,c] [] q) (Yf8 K ta):=by
 subst hK
 intro pins s σ H R I h
 refine Call_ (Qt4 I hg hm Yh7 (PyProof.Rows.callWith_type1 (thn (ha q pins s σ H _ I h) fun us s1 ⟨vs,H1,I1,r1,q1⟩=>?_) hs hpl))
 obtain⟨l1,l2,l3,e,⟨xs,hx⟩,⟨ys,hy⟩,⟨zs,hz⟩,q⟩:=q1
 subst e
 cases r1 with
 | cons r rr =>
  cases rr with
  | cons r' rr' =>
   cases rr' with
   | cons r'' rr'' =>
    cases rr''
    cases r
    cases r'
    cases r''
    obtain⟨its1,rv1,p1,hz1⟩:=I1.list hx
    obtain⟨its2,rv2,p2,hz2⟩:=I1.list hy
    obtain⟨its3,rv3,p3,hz3⟩:=I1.list hz
    refine Xs8 p1.isList p2.isList p3.isList fun h' a1 a2 a3 a4 a5 a6 a7=>?_
    refine wpAny_pyIter_zip (s:={ s1 with heap:=h' }) a1 ?_
    have I2:Inv X pins σ H1 { s1 with heap:=h' }:=I1.kept (t':=s1.toks) a7
    have n1:@LT.lt Nat _ l1 s1.heap.objs.size:=by obtain⟨o,e,_⟩:=p1.isList;exact Heap.lt_size e
    have n2:@LT.lt Nat _ l2 s1.heap.objs.size:=by obtain⟨o,e,_⟩:=p2.isList;exact Heap.lt_size e
    have n3:@LT.lt Nat _ l3 s1.heap.objs.size:=by obtain⟨o,e,_⟩:=p3.isList;exact Heap.lt_size e
    have ne:∀{a b:Nat},a<b→a≠b:=fun h=>Nat.ne_of_lt h
    have gt:∀{a b:Nat},b<a→a≠b:=fun h=>Nat.ne_of_gt h
    have D:Z3 (s1.heap.objs.size+5) (s1.heap.objs.size+3) (s1.heap.objs.size+4) s1.heap.objs.size (s1.heap.objs.size+1) (s1.heap.objs.size+2) [l1,l2,l3]:=by
     generalize s1.heap.objs.size=n at n1 n2 n3
     refine⟨ne (by omega),ne (by omega),ne (by omega),ne (by omega),ne (by omega),ne (by omega),gt (by omega),gt (by omega),gt (by omega),gt (by omega),gt (by omega),gt (by omega),ne (by omega),ne (by omega),ne (by omega),fun l hl=>?_⟩
     have hlt:@LT.lt Nat _ l n:=by
      rcases List.mem_cons.mp hl with e|hl
      ·rw[e];exact n1
      rcases List.mem_cons.mp hl with e|hl
      ·rw[e];exact n2
      ·rw[List.mem_singleton.mp hl];exact n3
     exact⟨Nat.ne_of_lt (by omega),Nat.ne_of_lt (by omega),Nat.ne_of_lt hlt,Nat.ne_of_lt (by omega),Nat.ne_of_lt (by omega)⟩
    refine⟨_,_,_,_,H1,rfl,I2,Xs7 D,⟨a1,a2,⟨_,_,_,a3⟩,a4,a5,a6⟩,fun b hb=>?_,q⟩
    have hb':b=s1.heap.objs.size+5∨b=s1.heap.objs.size+3∨b=s1.heap.objs.size+4∨b=s1.heap.objs.size∨b=s1.heap.objs.size+1∨b=s1.heap.objs.size+2:=by simpa using hb
    have hb2:s1.heap.objs.size≤b:=by rcases hb' with q|q|q|q|q|q<;>rw[q]<;>first|exact Nat.le_refl _|exact Nat.le_add_right _ _
    exact I1.fpOk hb2 (I1.hok.fresh hb2)
end
theorem Xs9 {nT:Nat}{js:List Nat}{g:TG}{tb:TB}{Q:VK}{σ:St}{H:Hp}{K:PySem.W.Frag}{a b c:Addr}{xs ys zs:List V} (Pv:Nat→List V→Hp→Prop) (h0:Pv 0 [] H) (e1:xs.length=ys.length) (e2:xs.length=zs.length) (hz:xs.length≤sizeLine) (hlen:∀i vs H,Pv i vs H→vs.length≤i)
  (hl:∀i vs H,i≤xs.length→Pv i vs H→SqL K H a xs∧SqL K H b ys∧SqL K H c zs)
  (hs:∀i x y z vs H p,xs[i]?=some x→ys[i]?=some y→zs[i]?=some z→Pv i vs H→H p=none→g (.ref p) (Qb9 nT js σ) (upd H p (.tup [x,y,z])) fun σ4 H4=>σ4.drop nT=Qe2 js σ∧tb (fun v H5=>Pv (i+1) (vs++[v]) H5) (fun H5=>Pv (i+1) vs H5) σ4 H4)
  (hd:∀vs H,Pv xs.length vs H→∀l,H l=none→Q (.ref l) (upd H l (.lst vs))) :
  Zi4 nT js (Itz3 K a b c) g tb σ H Q:=by
 refine⟨fun i m vs H=>m=xs.length-i∧i≤xs.length∧Pv i vs H,⟨xs.length,by simp,Nat.zero_le _,h0⟩,?_⟩
 rintro i m vs H2 ⟨rfl,hi,p⟩
 have hl':=hlen i vs H2 p
 obtain⟨q1,q2,q3⟩:=hl i vs H2 hi p
 by_cases hlt:i<xs.length
 ·refine .inr ⟨⟨xs,ys,zs,xs[i],ys[i],zs[i],q1,q2,q3,by simp[hlt],by simp[←e1,hlt],by simp[←e2,hlt]⟩,by omega,Pv (i+1),fun ys' H' p'=>⟨xs.length-(i+1),by omega,rfl,hlt,p'⟩,fun x H3 y=>?_⟩
  obtain⟨r,x1,y1,z1,rfl,hn,rfl,f1,f2,f3⟩:=y
  exact hs i x1 y1 z1 vs _ r (f1 xs q1) (f2 ys q2) (f3 zs q3) p hn
 ·have e:i=xs.length:=by omega
  subst e
  exact .inl ⟨⟨xs,q1,Nat.le_refl _⟩,by omega,hd vs H2 p⟩
end L2
namespace L2
open PySem PySem.Spec PyProof.Rows
theorem Zt5 {nT:Nat}{js:List Nat}{g:TG}{tb:TB}{Q:VK}{σ:St}{H:Hp}{K:PySem.W.Frag}{a:Addr}{xs:List V} (Pv:Nat→List V→Hp→Prop) (h0:Pv 0 [] H) (hz:xs.length≤sizeLine) (hlen:∀i vs H,Pv i vs H→vs.length≤i)
  (hl:∀i vs H,i≤xs.length→Pv i vs H→SqT K H a xs)
  (hs:∀i x vs H p,xs[i]?=some x→Pv i vs H→H p=none→g (.ref p) (Qb9 nT js σ) (upd H p (.tup [.int i,x])) fun σ4 H4=>σ4.drop nT=Qe2 js σ∧tb (fun v H5=>Pv (i+1) (vs++[v]) H5) (fun H5=>Pv (i+1) vs H5) σ4 H4)
  (hd:∀vs H,Pv xs.length vs H→∀l,H l=none→Q (.ref l) (upd H l (.lst vs))) :
  Zi4 nT js (Itet K a) g tb σ H Q:=by
 refine⟨fun i m vs H=>m=xs.length-i∧i≤xs.length∧Pv i vs H,⟨xs.length,by simp,Nat.zero_le _,h0⟩,?_⟩
 rintro i m vs H2 ⟨rfl,hi,p⟩
 have hl':=hlen i vs H2 p
 have hq:=hl i vs H2 hi p
 by_cases hlt:i<xs.length
 ·refine .inr ⟨⟨xs,_,hq,List.getElem?_eq_getElem hlt⟩,by omega,Pv (i+1),fun ys' H' p'=>⟨xs.length-(i+1),by omega,rfl,hlt,p'⟩,fun x H3 y=>?_⟩
  obtain⟨q,z,rfl,hn,rfl,hz⟩:=y
  exact hs i z vs _ q (hz xs hq) p hn
 ·have e:i=xs.length:=by omega
  subst e
  exact .inl ⟨⟨xs,hq,rfl⟩,by omega,hd vs H2 p⟩
section
variable {X:Cx}{e:Expr}{ta:TE}{f:Str}{pos:Pos}
theorem Xf5 (K:PySem.W.Frag) (he:PE X e ta) (hb:attributeBase e f X.env (eval e X.env)=eval e X.env) (hK:X.K=K:=by rfl):PE X (.Attribute e f pos) (tFld K ta f):=by
 subst hK
 exact Qx4 he hb
end
def Xe0 (te:TE):TE:=fun σ H Q=>te σ H fun x H1=>∃n:Nat,[x]=[V.int (n:Nat)]∧n≤2^20∧∀l,H1 l=none→Q (.ref l) (upd H1 l (.lst ((List.range n).map fun i:Nat=>V.int (i:Nat))))
section
variable {X:Cx}{e:Expr}{te:TE}{p1 p2 pos pos2:Pos}
theorem Xe1 {n:Nat}{acc:Array Value} (h:ItemsOf (fun i v=>∃t,v=Value.int (0+(i:Int)*1) t) acc n):Vals ((List.range n).map fun i:Nat=>V.int (i:Nat)) acc.toList:=by
 obtain⟨h1,h2⟩:=h
 have gen:∀(us:List Value) (k:Nat),(∀j u,us[j]?=some u→∃t,u=Value.int ((k+j:Nat):Int) t)→Vals ((List.range' k us.length).map fun i:Nat=>V.int (i:Nat)) us:=by
  intro us
  induction us with
  | nil=>intro k _;exact .nil
  | cons u us ih =>
   intro k g
   rw[List.length_cons,List.range'_succ,List.map_cons]
   refine .cons ?_ (ih (k+1) fun j v hv=>?_)
   ·obtain⟨t,e⟩:=g 0 u rfl
    exact⟨t,e⟩
   ·obtain⟨t,e⟩:=g (j+1) v (by simpa using hv)
    exact⟨t,by rw[e];congr 2;omega⟩
 have:=gen acc.toList 0 (fun j u hu=>by
  obtain⟨t,e⟩:=h2 j u (by simpa using hu)
  exact⟨t,by rw[e];congr 1;omega⟩)
 rw[Array.length_toList,h1]at this
 rw[List.range_eq_range']
 exact this
theorem Xd7 (hc:X.calm=true) (he:PE X e te) (hg:Gl X "list") (hm:X.mg "list" = none) (hg2:Gl X "range") (hm2:X.mg "range" = none)
  (hs:starEach [e] X.env=[(false,eval e X.env)]:=by rfl) (hs2:starEach [.Call (.Name "range" p2) [e] [] pos2] X.env=[(false,eval (.Call (.Name "range" p2) [e] [] pos2) X.env)]:=by rfl) :
  PE X (.Call (.Name "list" p1) [.Call (.Name "range" p2) [e] [] pos2] [] pos) (Xe0 te):=by
 intro pins s σ H Q I h
 refine Call_ (Qt4 I hg hm Qm4 (PyProof.Rows.callWith_type1 ?_ hs2 rfl))
 rw[hs2]
 refine Calls.spliced_cons ?_
 refine Call_ (Qt4 I hg2 hm2 boot_range (PyProof.Rows.callWith_type1 (thn ((Qq0 (hs:=hs) he Qq3) pos2 pins s σ H (fun xs H1=>∃n:Nat,xs=[V.int (n:Nat)]∧n≤2^20∧∀l,H1 l=none→Q (.ref l) (upd H1 l (.lst ((List.range n).map fun i:Nat=>V.int (i:Nat))))) I h) fun us s1 ⟨vs,H1,I1,r1,q1⟩=>?_) hs rfl))
 obtain⟨n,e1,hn,q⟩:=q1
 subst e1
 obtain⟨u,rfl,rx⟩:=r1.one
 obtain⟨t,rfl⟩:=rx
 refine call_range_1 ?_
 refine Calls.spliced_nil ?_
 have hsz:(2:Nat)^20≤sizeLine:=by decide
 refine PySem.call_list_range (n:=n) (I.ok.hd hc) (IsRange.new ..) (small_one (by omega) (by omega) (by omega) (by omega)) (by rw[rangeSize_one];split<;>omega) (by omega) fun h' tk acc' c' kp hS' hit=>?_
 have hle:s1.heap.objs.size≤(s1.heap.push { cls:=Value.type "range",data:=Data.fields #[Value.int 0 s1.toks,Value.int (n:Nat) t,Value.int 1 (s1.toks+1)] }).objs.size:=by rw[Heap.size_push];exact Nat.le_succ _
 have hS2:h'.get? (s1.heap.push { cls:=Value.type "range",data:=Data.fields #[Value.int 0 s1.toks,Value.int (n:Nat) t,Value.int 1 (s1.toks+1)] }).objs.size=some { cls:=Value.type "list",data:=Data.seq acc'.toList.toArray c' }:=hS'
 have I2:Inv X pins σ (upd H1 (s1.heap.push { cls:=Value.type "range",data:=Data.fields #[Value.int 0 s1.toks,Value.int (n:Nat) t,Value.int 1 (s1.toks+1)] }).objs.size (.lst ((List.range n).map fun i:Nat=>V.int (i:Nat)))) { s1 with heap:=h',toks:=tk } :=
  I1.laid (fun b u e=>kp b u (Heap.get?_push_of_some _ e)) hle ⟨by rw[List.length_map,List.length_range];omega,acc'.toList,c',Xe1 hit,hS2⟩
 exact⟨.ref (s1.heap.push { cls:=Value.type "range",data:=Data.fields #[Value.int 0 s1.toks,Value.int (n:Nat) t,Value.int 1 (s1.toks+1)] }).objs.size,_,I2,rfl,q _ (I1.hok.fresh hle)⟩
end
end L2
namespace L2
open PySem PySem.Spec PyProof.Rows
structure CompScO (X:Cx) (scope:Scope) (T:List Str) (js:List Nat) (x0:Str):Prop where
 kind:scope.kind=.function
 cell:(scope.names.all fun y=>decide (y.2=.cell→y.1=x0))=true
 loc:(scope.names.all fun y=>decide (y.2=.local→scope.names.lookup y.1=some .local))=true
 fr:(scope.names.all fun y=>decide (y.2=.free→(X.env.kindOf y.1=some .cell∨X.env.kindOf y.1=some .free)))=true
 seen:(js.all fun j=>decide (scope.names.lookup (X.N.getD j (Str.ofString ""))=some .free))=true
 one:∀n acc,cellsFrom n scope.names acc=(x0,n)::acc
 push:∀h,pushCells h scope.names=h.push { cls:=.type "cell",data:=.cell none }
 lk:scope.names.lookup x0=some .cell
section
variable {X:Cx}{pins:List (Addr×Obj)}{σ:St}{H H2 H':Hp}{s s2:Shared}{scope:Scope}{T:List Str}{js:List Nat}{x0:Str}
end
end L2
namespace Rp
def Ql6 (st:List Int×Int) (c:Int):List Int×Int:=if c=1 then (st.1,st.2+1) else if 0<st.2 then (st.1++[st.2],0) else st
def Qf6 (ns:List Int):List Int×Int:=ns.foldl Ql6 ([],0)
def Qk2 (ns:List Int):List Int:=if 0<(Qf6 ns).2 then (Qf6 ns).1++[(Qf6 ns).2] else (Qf6 ns).1
theorem Zt6 (ns:List Int) (z:Int):Qf6 (ns++[z])=Ql6 (Qf6 ns) z:=by unfold Qf6;rw[List.foldl_append];rfl
theorem Xd8 {ns:List Int}{i:Nat}{z:Int} (h:ns[i]?=some z):Qf6 (ns.take (i+1))=Ql6 (Qf6 (ns.take i)) z:=by
 rw[List.take_add_one,h];exact Zt6 _ _
theorem Xn0 (st:List Int×Int) (z:Int):(Ql6 st z).1.length≤st.1.length+1:=by
 unfold Ql6;split
 ·simp
 ·split<;>simp
theorem Xz9:∀(ns:List Int) (st:List Int×Int),(ns.foldl Ql6 st).1.length≤st.1.length+ns.length
 | [],st=>by simp
 | z::r,st=>by
  rw[List.foldl_cons]
  have h1:=Xz9 r (Ql6 st z)
  have h2:=Xn0 st z
  rw[List.length_cons];omega
theorem Xy7 (ns:List Int):(Qf6 ns).1.length≤ns.length:=by
 have:=Xz9 ns ([],0)
 simpa [Qf6] using this
theorem Xn1 (ns:List Int):(Qf6 (ns++[0])).1=Qk2 ns:=by
 rw[Zt6]
 unfold Ql6 Qk2
 rw[if_neg (by decide)]
 split<;>rfl
def mixZ (c k:Int):Int :=
 ((((c*69621+7001*k+3)%2147483629)*((c*69621+7001*k+3)%2147483629)+39373*((c*69621+7001*k+3)%2147483629)+k)%2147483647)
theorem Xe2 (c k:Int):0≤(c*69621+7001*k+3)%2147483629∧(c*69621+7001*k+3)%2147483629<2147483629:=by omega
def Qi0 (ns:List Int) (i:Nat):Int:=ns.getD i 0
end Rp
namespace Rp
open PySem L2
def dRow (xs:List Int):Dt:=.lst (xs.map Dt.int)
def Qk6 (xss:List (List Int)):Dt:=.lst (xss.map dRow)
def dTup (xs:List Int):Dt:=.tup (xs.map Dt.int)
def Ql7 (xss:List (List Int)):Dt:=.tup (xss.map dTup)
def Qv8 (b:List (List Int)×List (List Int)):Dt:=.tup [Ql7 b.1,Ql7 b.2]
def colZ (xss:List (List Int)) (j:Nat):List Int:=xss.map fun xs=>xs.getD j 0
def Qe9 (xss:List (List Int)) (w:Nat):List (List Int)×List (List Int):=(xss.map Qk2,(List.range w).map fun j=>Qk2 (colZ xss j))
theorem Zz0 {H:Hp}:∀{xs:List Int}{ys:List V},IsDs H (xs.map Dt.int) ys→ys=xs.map V.int
 | [],ys,h=>by
  have h':IsDs H [] ys:=h
  unfold IsDs at h'
  exact h'
 | x::r,ys,h=>by
  have h':IsDs H (Dt.int x::r.map Dt.int) ys:=h
  unfold IsDs at h'
  obtain⟨y,r',rfl,hy,hr⟩:=h'
  unfold IsD at hy
  subst hy
  rw[Zz0 hr]
  rfl
theorem Qu9 {H:Hp}{a:Addr}{xs:List Int} (h:H a=some (.lst (xs.map V.int))):IsD H (dRow xs) (.ref a):=Xo0 h
theorem Zg3 {H:Hp}{a:Addr}{xs:List Int} (h:H a=some (.tup (xs.map V.int))):IsD H (dTup xs) (.ref a):=Xo1 h
theorem Zj4 {H:Hp}{xs:List Int}{v:V} (h:IsD H (dRow xs) v):∃a,v=.ref a∧H a=some (.lst (xs.map V.int)):=by
 unfold dRow IsD at h
 obtain⟨a,ys,rfl,ha,hs⟩:=h
 rw[Zz0 hs]at ha
 exact⟨a,rfl,ha⟩
theorem tup_inv {H:Hp}{xs:List Int}{v:V} (h:IsD H (dTup xs) v):∃a,v=.ref a∧H a=some (.tup (xs.map V.int)):=by
 unfold dTup IsD at h
 obtain⟨a,ys,rfl,ha,hs⟩:=h
 rw[Zz0 hs]at ha
 exact⟨a,rfl,ha⟩
theorem Zb1 {H:Hp}{xss:List (List Int)}{a:Addr} (h:IsD H (Qk6 xss) (.ref a)):∃vs,H a=some (.lst vs)∧IsDs H (xss.map dRow) vs:=by
 unfold Qk6 IsD at h
 obtain⟨b,vs,e,hb,hs⟩:=h
 cases e
 exact⟨vs,hb,hs⟩
theorem tups_inv {H:Hp}{xss:List (List Int)}{a:Addr} (h:IsD H (Ql7 xss) (.ref a)):∃vs,H a=some (.tup vs)∧IsDs H (xss.map dTup) vs:=by
 unfold Ql7 IsD at h
 obtain⟨b,vs,e,hb,hs⟩:=h
 cases e
 exact⟨vs,hb,hs⟩
theorem Zj5 {H:Hp}{xss:List (List Int)}{a:Addr}{vs:List V} (h:H a=some (.lst vs)) (hs:IsDs H (xss.map dRow) vs):IsD H (Qk6 xss) (.ref a):=by
 unfold Qk6 IsD
 exact⟨a,vs,rfl,h,hs⟩
theorem Zl1 {H:Hp}{xss:List (List Int)}{a:Addr}{vs:List V} (h:H a=some (.tup vs)) (hs:IsDs H (xss.map dTup) vs):IsD H (Ql7 xss) (.ref a):=by
 unfold Ql7 IsD
 exact⟨a,vs,rfl,h,hs⟩
theorem board_inv {H:Hp}{b:List (List Int)×List (List Int)}{a:Addr} (h:IsD H (Qv8 b) (.ref a)):∃r c,H a=some (.tup [.ref r,.ref c])∧IsD H (Ql7 b.1) (.ref r)∧IsD H (Ql7 b.2) (.ref c):=by
 unfold Qv8 IsD at h
 obtain⟨x,vs,e,hx,hs⟩:=h
 cases e
 unfold IsDs at hs
 obtain⟨v1,r1,rfl,h1,hs⟩:=hs
 unfold IsDs at hs
 obtain⟨v2,r2,rfl,h2,hs⟩:=hs
 unfold IsDs at hs
 subst hs
 have h1':=h1
 have h2':=h2
 unfold Ql7 IsD at h1 h2
 obtain⟨r,_,rfl,_⟩:=h1
 obtain⟨c,_,rfl,_⟩:=h2
 exact⟨r,c,hx,h1',h2'⟩
theorem Xy8 {H:Hp}{b:List (List Int)×List (List Int)}{a r c:Addr} (h:H a=some (.tup [.ref r,.ref c])) (h1:IsD H (Ql7 b.1) (.ref r)) (h2:IsD H (Ql7 b.2) (.ref c)):IsD H (Qv8 b) (.ref a):=by
 unfold Qv8 IsD
 refine⟨a,_,rfl,h,?_⟩
 unfold IsDs
 refine⟨_,_,rfl,h1,?_⟩
 unfold IsDs
 exact⟨_,_,rfl,h2,by unfold IsDs;rfl⟩
theorem Zr9 {f:List Int→Dt}{n:Nat} (hf:∀xs,Qy5 (f xs)≤n):∀xss:List (List Int),Qv1 (xss.map f)≤n
 | []=>by show Qv1 []≤n;unfold Qv1;exact Nat.zero_le _
 | x::r=>by
  show Qv1 (f x::r.map f)≤n
  unfold Qv1
  have h1:=hf x
  have h2:=Zr9 hf r
  omega
theorem Zw5 (xs:List Int):Qy5 (dRow xs)≤1:=by unfold dRow;rw[Qo1,Zh7];omega
theorem Xx0 (xs:List Int):Qy5 (dTup xs)≤1:=by unfold dTup;rw[Qi9,Zh7];omega
theorem Zb2 (xss:List (List Int)):Qy5 (Qk6 xss)≤2:=by unfold Qk6;rw[Qo1];have:=Zr9 Zw5 xss;omega
theorem Zx0 (xss:List (List Int)):Qy5 (Ql7 xss)≤2:=by unfold Ql7;rw[Qi9];have:=Zr9 Xx0 xss;omega
theorem Zy3 (b:List (List Int)×List (List Int)):Qy5 (Qv8 b)≤3:=by
 unfold Qv8
 rw[Qi9]
 unfold Qv1 Qv1 Qv1
 have h1:=Zx0 b.1
 have h2:=Zx0 b.2
 omega
theorem Qu4 {H:Hp}{f:List Int→Dt}{xss:List (List Int)}{vs:List V}{i:Nat}{v:V} (hs:IsDs H (xss.map f) vs) (e:vs[i]?=some v):∃xs,xss[i]?=some xs∧IsD H (f xs) v:=by
 obtain⟨d,e1,e2⟩:=hs.get' e
 rw[List.getElem?_map]at e1
 cases q:xss[i]? with
 | none=>rw[q]at e1;cases e1
 | some xs=>rw[q]at e1;cases e1;exact⟨xs,rfl,e2⟩
theorem Qb0 {H:Hp}{f:List Int→Dt}{xss:List (List Int)}{vs:List V} (hs:IsDs H (xss.map f) vs):vs.length=xss.length:=by rw[←hs.length,List.length_map]
theorem Zm3 {α β:Type} (f:α→β) (d:α) (xs:List α):(List.range xs.length).map (fun i=>f (xs.getD i d))=xs.map f:=by
 apply List.ext_getElem?
 intro i
 rw[List.getElem?_map,List.getElem?_map]
 by_cases h:i<xs.length
 ·rw[List.getElem?_range h,List.getElem?_eq_getElem h]
  simp[h]
 ·rw[List.getElem?_eq_none (by simpa using h),List.getElem?_eq_none (by simpa using h)]
  rfl
theorem Qz4 {α:Type}{xs:List α}{i:Nat}{x d:α} (h:xs[i]?=some x):xs.getD i d=x:=by rw[List.getD_eq_getElem?_getD,h];rfl
theorem Xe3 {H:Hp}{a b:Addr}{o o' o2:HO} (h:a≠b):upd (upd (upd H a o) b o') a o2=upd (upd H b o') a o2:=by
 funext c
 unfold upd
 by_cases h1:c=a
 ·simp[h1]
 ·by_cases h2:c=b
  ·simp[h1,h2]
  ·simp[h1,h2]
def pixZ (c:Int) (i j:Nat):Int:=if mixZ c 3%3<mixZ c (1000+20*(i:Int)+j)/7%4 then 1 else 0
def Zk8 (c:Int) (w i:Nat):List Int:=(List.range w).map fun j=>pixZ c i j
def picZ (c:Int) (r w:Nat):List (List Int):=(List.range r).map fun i=>Zk8 c w i
theorem Xd9 (c:Int) (w i:Nat):(Zk8 c w i).length=w:=by unfold Zk8;simp
theorem Xe4 (c:Int) (r w:Nat):(picZ c r w).length=r:=by unfold picZ;simp
theorem Xe5 {c:Int}{r w:Nat}{xs:List Int} (h:xs∈picZ c r w):xs.length=w:=by
 unfold picZ at h
 obtain⟨i,_,rfl⟩:=List.mem_map.mp h
 exact Xd9 c w i
theorem Ql2 {H:Hp}:∀{ds:List Dt}{xs:List V},ds.length=xs.length→(∀(i:Nat) d x,ds[i]?=some d→xs[i]?=some x→IsD H d x)→IsDs H ds xs
 | [],[],_,_=>by unfold IsDs;rfl
 | [],_::_,h,_=>by simp at h
 | _::_,[],h,_=>by simp at h
 | d::ds,x::xs,h,g=>by
  unfold IsDs
  exact⟨x,xs,rfl,g 0 d x rfl rfl,Ql2 (by simpa using h) fun i d' x' e1 e2=>g (i+1) d' x' (by simpa using e1) (by simpa using e2)⟩
structure Own (H0 H:Hp) (l:Addr) (as:List Addr) (xss:List (List Int)):Prop where
 same:Same H0 H
 at':H l=some (.lst (as.map V.ref))
 len:as.length=xss.length
 row:∀(i:Nat) a xs,as[i]?=some a→xss[i]?=some xs→H a=some (.lst (xs.map V.int))
 nd:as.Nodup
 nl:l∉as
 new:∀a∈as,H0 a=none
 newl:H0 l=none
theorem Zq0 {as:List Addr} (h:as.Nodup) {i j:Nat}{a:Addr} (e1:as[i]?=some a) (e2:as[j]?=some a):i=j:=by
 obtain⟨h1,q1⟩:=List.getElem?_eq_some_iff.mp e1
 obtain⟨h2,q2⟩:=List.getElem?_eq_some_iff.mp e2
 exact(List.getElem_inj h).mp (q1.trans q2.symm)
theorem Yw0 {α:Type}{as:List α}{i:Nat}{c x:α} (h:x∈as.set i c):x=c∨x∈as:=by
 rcases List.mem_or_eq_of_mem_set h with h|h
 ·exact .inr h
 ·exact .inl h
structure Grow (H0:Hp) (f:Nat→List Int) (i:Nat) (as:List Addr) (H':Hp):Prop where
 same:Same H0 H'
 len:as.length=i
 row:∀(j:Nat) a,as[j]?=some a→H' a=some (.lst ((f j).map V.int))
 nd:as.Nodup
 new:∀a∈as,H0 a=none
def Qz2 (H H':Hp) (as:List Addr):Prop:=∀b o,H b=some o→b∉as→H' b=some o
theorem Qz2.refl (H:Hp) (as:List Addr):Qz2 H H as:=fun _ _ h _=>h
theorem Qz2.upd {H H1:Hp}{as:List Addr}{a:Addr}{o:HO} (k:Qz2 H H1 as) (ha:a∈as):Qz2 H (upd H1 a o) as:=fun b o' h n=>by
 have nn:b≠a:=fun z=>n (by rw[z];exact ha)
 rw[Qz1 nn]
 exact k b o' h n
end Rp
namespace Rp
abbrev Qj5:=List (Option Int)
def Qe3 (k:Nat) (s:Qj5):Bool:=decide (k≤s.length)&&(s.take k).all (fun x=>decide (x≠some 0))&&(decide (k=s.length)||decide (s[k]?≠some (some 1)))
def Qw7 (k n:Nat):List Int:=List.replicate k 1++(if k<n then [0] else [])
def layL (rs:List Nat) (s:Qj5):List (List Int) :=
 match s with
 | []=>if rs=[] then [[]] else []
 | x::t =>
  (if x=some 1 then [] else (layL rs t).map (fun c=>0::c)) ++
  (match rs with
   | []=>[]
   | k::rs'=>if Qe3 k (x::t)=true then (layL rs' (t.drop k)).map (fun c=>Qw7 k (t.length+1)++c) else [])
termination_by s.length
decreasing_by
 ·simp
 ·simp;omega
theorem Zb3 (rs:List Nat):layL rs []=if rs=[] then [[]] else []:=by rw[layL.eq_def]
theorem Xn2 (rs:List Nat) (x:Option Int) (t:Qj5):layL rs (x::t)=(if x=some 1 then [] else (layL rs t).map (fun c=>0::c)) ++
  (match rs with
   | []=>[]
   | k::rs'=>if Qe3 k (x::t)=true then (layL rs' (t.drop k)).map (fun c=>Qw7 k (t.length+1)++c) else []):=by rw[layL.eq_def]
theorem Xf6 {α:Type}{l:List α}{p:Nat} (h:p<l.length):l.drop p=l[p]::l.drop (p+1):=List.drop_eq_getElem_cons h
open PySem L2
def vO:Option Int→V
 | none=>.non
 | some i=>.int i
def Qj4 (s:Qj5):List V:=s.map vO
def Qy0 (rs:List Nat):List V:=rs.map fun k=>V.int (k:Nat)
theorem Zb4 {s:Qj5}{p:Nat} (h:p<s.length):(Qj4 s)[p]?=some (vO s[p]):=by unfold Qj4;rw[List.getElem?_map,List.getElem?_eq_getElem h];rfl
theorem Yw1 {x:Option Int}{i:Int}:scal (vO x) (.int i)=true:=by cases x<;>rfl
def Yf9 (tr ls lw:Addr):List (Str×V):=putF "ways" (.ref lw) (putF "sight" (.ref ls) (putF "runs" (.ref tr) []))
structure CP (C:Addr) (H:Hp) (c:Addr) (rs:List Nat) (s:Qj5) (tbl:List (List Int)):Prop where
 ex:∃dx tr ls lw,H c=some (.ins C dx (Yf9 tr ls lw))∧H tr=some (.tup (Qy0 rs))∧H ls=some (.lst (Qj4 s))∧IsD H (Qk6 tbl) (.ref lw)
 len:tbl.length=s.length+1
 wid:∀row∈tbl,row.length=rs.length+1
end Rp
namespace Rp
def Qh5 (acc:Int):List Int→List Int
 | []=>if 0<acc then [acc] else []
 | z::r=>if z=1 then Qh5 (acc+1) r else if 0<acc then acc::Qh5 0 r else Qh5 0 r
theorem Zx1:∀(ns:List Int) (l:List Int) (acc:Int),0≤acc →
  (if 0<(ns.foldl Ql6 (l,acc)).2 then (ns.foldl Ql6 (l,acc)).1++[(ns.foldl Ql6 (l,acc)).2] else (ns.foldl Ql6 (l,acc)).1)=l++Qh5 acc ns
 | [],l,acc,h=>by
  rw[List.foldl_nil]
  unfold Qh5
  split<;>simp
 | z::r,l,acc,h=>by
  rw[List.foldl_cons]
  have e:Ql6 (l,acc) z=if z=1 then (l,acc+1) else if 0<acc then (l++[acc],0) else (l,acc):=rfl
  rw[e]
  unfold Qh5
  by_cases h1:z=1
  ·rw[if_pos h1,if_pos h1]
   exact Zx1 r l (acc+1) (by omega)
  ·rw[if_neg h1,if_neg h1]
   by_cases h2:0<acc
   ·rw[if_pos h2,if_pos h2,Zx1 r (l++[acc]) 0 (by omega)]
    simp
   ·rw[if_neg h2,if_neg h2]
    have h3:acc=0:=by omega
    subst h3
    exact Zx1 r l 0 (by omega)
theorem Qo4 (ns:List Int):Qk2 ns=Qh5 0 ns:=by
 have:=Zx1 ns [] 0 (by omega)
 unfold Qk2 Qf6
 rw[this]
 rfl
theorem Zb5:∀(k:Nat) (acc:Int) (r:List Int),Qh5 acc (List.replicate k 1++r)=Qh5 (acc+k) r
 | 0,acc,r=>by simp
 | k+1,acc,r=>by
  rw[List.replicate_succ,List.cons_append]
  show Qh5 (acc+1) _=_
  rw[Zb5 k (acc+1) r]
  congr 1
  omega
theorem Zt7 (c:List Int):Qk2 (0::c)=Qk2 c:=by rw[Qo4,Qo4];rfl
theorem Xx1 {k:Nat} (hk:1≤k) (c:List Int):Qk2 (List.replicate k 1++0::c)=(k:Int)::Qk2 c:=by
 rw[Qo4,Zb5,Qo4]
 show (if (0:Int)=1 then _ else if 0<(0:Int)+k then ((0:Int)+k)::Qh5 0 c else _)=_
 rw[if_neg (by decide),if_pos (by omega),Int.zero_add]
theorem Zt8 {k:Nat} (hk:1≤k):Qk2 (List.replicate k 1)=[(k:Int)]:=by
 have:=Zb5 k 0 []
 rw[List.append_nil]at this
 rw[Qo4,this]
 show (if 0<(0:Int)+k then [(0:Int)+k] else [])=_
 rw[if_pos (by omega),Int.zero_add]
def Qh7:Qj5→List Int→Bool
 | x::s,z::c=>(decide (x=none)||decide (x=some z))&&Qh7 s c
 | _,_=>true
def Qd5 (c:List Int):Prop:=∀z∈c,z=0∨z=1
def Qd6 (s:Qj5):Prop:=∀x∈s,x=none∨x=some 0∨x=some 1
theorem Zx2:∀(k:Nat) (s:Qj5) (c:List Int),k≤s.length→Qd6 s→Qh7 s (List.replicate k 1++c)=((s.take k).all (fun x=>decide (x≠some 0))&&Qh7 (s.drop k) c)
 | 0,s,c,h,p=>by simp
 | k+1,[],c,h,p=>by simp at h
 | k+1,x::s,c,h,p=>by
  rw[List.replicate_succ,List.cons_append,List.take_succ_cons,List.drop_succ_cons,List.all_cons]
  show ((decide (x=none)||decide (x=some 1))&&Qh7 s _)=_
  rw[Zx2 k s c (by simpa using h) (fun y hy=>p y (List.mem_cons_of_mem _ hy)),Bool.and_assoc]
  congr 1
  rcases p x (List.mem_cons_self ..) with e|e|e<;>subst e<;>decide
theorem Zx3 (x:Option Int) (s:Qj5) (c:List Int) (p:x=none∨x=some 0∨x=some 1):Qh7 (x::s) (0::c)=(decide (x≠some 1)&&Qh7 s c):=by
 show ((decide (x=none)||decide (x=some 0))&&Qh7 s _)=_
 congr 1
 rcases p with e|e|e<;>subst e<;>decide
theorem Xx2:∀(c:List Int),Qd5 c→∃k r,c=List.replicate k 1++r∧(r=[]∨∃r',r=0::r')
 | [],_=>⟨0,[],rfl,.inl rfl⟩
 | z::c,h=>by
  rcases h z (List.mem_cons_self ..) with e|e
  ·subst e
   exact⟨0,0::c,rfl,.inr ⟨c,rfl⟩⟩
  ·subst e
   obtain⟨k,r,e,hr⟩:=Xx2 c fun y hy=>h y (List.mem_cons_of_mem _ hy)
   exact⟨k+1,r,by rw[e,List.replicate_succ,List.cons_append],hr⟩
def Qw3 (rs:List Nat):List Int:=rs.map fun (k:Nat)=>(k:Int)
theorem Xx3:∀{a b:List Nat},Qw3 a=Qw3 b→a=b
 | [],[],_=>rfl
 | [],_::_,h=>by simp[Qw3]at h
 | _::_,[],h=>by simp[Qw3]at h
 | x::a,y::b,h=>by
  unfold Qw3 at h
  rw[List.map_cons,List.map_cons]at h
  injection h with h1 h2
  rw[Xx3 h2,Int.ofNat.inj h1]
theorem Zm4 {k:Nat}{s:Qj5}:Qe3 k s=true↔k≤s.length∧(s.take k).all (fun x=>decide (x≠some 0))=true∧(k=s.length∨s[k]?≠some (some 1)):=by
 unfold Qe3
 rw[Bool.and_eq_true,Bool.and_eq_true,Bool.or_eq_true,decide_eq_true_eq,decide_eq_true_eq,decide_eq_true_eq,and_assoc]
def layF (rs:List Nat) (s:Qj5):List (List Int):=match rs with
 | []=>[]
 | k::rs'=>if Qe3 k s=true then (layL rs' (s.drop (k+1))).map (fun c=>Qw7 k s.length++c) else []
def layE (rs:List Nat) (s:Qj5):List (List Int):=match s with
 | []=>[]
 | x::t=>if x=some 1 then [] else (layL rs t).map (fun c=>0::c)
theorem Zb6 (rs:List Nat) (x:Option Int) (t:Qj5):layL rs (x::t)=layE rs (x::t)++layF rs (x::t):=by
 rw[Xn2]
 congr 1
theorem Zl2:∀(n:Nat) (rs:List Nat) (s:Qj5) (c:List Int),s.length=n→(∀k∈rs,1≤k)→Qd6 s→Qd5 c→(c∈layL rs s↔c.length=s.length∧Qk2 c=Qw3 rs∧Qh7 s c=true):=by
 intro n
 induction n using Nat.strongRecOn with
 | _ n ih =>
  intro rs s c hn hr hs hc
  cases s with
  | nil =>
   rw[Zb3]
   constructor
   ·intro h
    split at h
    ·rename_i e
     have hc0:c=[]:=by simpa using h
     subst e hc0
     exact⟨rfl,rfl,rfl⟩
    ·simp at h
   ·rintro⟨h1,h2,_⟩
    have hc0:c=[]:=List.length_eq_zero_iff.mp (by simpa using h1)
    subst hc0
    have:rs=[]:=by
     cases rs with
     | nil=>rfl
     | cons k r=>simp[Qw3,Qk2,Qf6]at h2
    rw[if_pos this]
    simp
  | cons x t =>
   have hst:Qd6 t:=fun y hy=>hs y (List.mem_cons_of_mem _ hy)
   have hx:=hs x (List.mem_cons_self ..)
   have hnt:t.length<n:=by rw[←hn];simp
   rw[Zb6,List.mem_append]
   obtain⟨k,r,e,hrr⟩:=Xx2 c hc
   have hE:c∈layE rs (x::t)↔∃c',c=0::c'∧x≠some 1∧c'∈layL rs t:=by
    unfold layE
    show c∈(if x=some 1 then [] else (layL rs t).map (fun c=>(0:Int)::c))↔_
    split
    ·rename_i h1
     simp[h1]
    ·rename_i h1
     rw[List.mem_map]
     constructor
     ·rintro⟨c',h2,rfl⟩
      exact⟨c',rfl,h1,h2⟩
     ·rintro⟨c',rfl,_,h2⟩
      exact⟨c',h2,rfl⟩
   have hF:c∈layF rs (x::t)↔∃k rs' c',rs=k::rs'∧Qe3 k (x::t)=true∧c=Qw7 k (t.length+1)++c'∧c'∈layL rs' (t.drop k):=by
    unfold layF
    cases rs with
    | nil=>simp
    | cons k rs' =>
     show c∈(if Qe3 k (x::t)=true then (layL rs' (t.drop k)).map (fun c=>Qw7 k (t.length+1)++c) else [])↔_
     split
     ·rename_i h1
      rw[List.mem_map]
      constructor
      ·rintro⟨c',h2,rfl⟩
       exact⟨k,rs',c',rfl,h1,rfl,h2⟩
      ·rintro⟨k',rs'',c',e1,_,e2,h2⟩
       injection e1 with e3 e4
       subst e3 e4
       exact⟨c',h2,e2.symm⟩
     ·rename_i h1
      constructor
      ·intro z;simp at z
      ·rintro⟨k',rs'',c',e1,h2,_⟩
       injection e1 with e3 e4
       subst e3
       exact absurd h2 h1
   rw[hE,hF]
   cases k with
   | zero =>
    rw[List.replicate_zero,List.nil_append]at e
    subst e
    have noF:∀k' (rs':List Nat) c',rs=k'::rs'→c≠Qw7 k' (t.length+1)++c':=fun k' rs' c' e1 e2=>by
     have hk:=hr k' (by rw[e1];simp)
     obtain⟨j,rfl⟩:∃j,k'=j+1:=⟨k'-1,by omega⟩
     unfold Qw7 at e2
     rw[List.replicate_succ,List.cons_append,List.cons_append]at e2
     rcases hrr with z|⟨c0,z⟩
     ·rw[z]at e2;cases e2
     ·rw[z]at e2;injection e2 with e3 e4;exact absurd e3 (by decide)
    constructor
    ·rintro(⟨c',rfl,h1,h2⟩|⟨k',rs',c',e1,_,e2,_⟩)
     ·have hc':Qd5 c':=fun y hy=>hc y (List.mem_cons_of_mem _ hy)
      obtain⟨q1,q2,q3⟩:=(ih t.length hnt rs t c' rfl hr hst hc').mp h2
      exact⟨by simp[q1],by rw[Zt7];exact q2,by rw[Zx3 x t c' hx,decide_eq_true h1,q3];rfl⟩
     ·exact absurd e2 (noF k' rs' c' e1)
    ·rintro⟨h1,h2,h3⟩
     rcases hrr with z|⟨c',z⟩
     ·rw[z]at h1;simp at h1
     ·subst z
      have hc':Qd5 c':=fun y hy=>hc y (List.mem_cons_of_mem _ hy)
      rw[Zx3 x t c' hx,Bool.and_eq_true,decide_eq_true_eq]at h3
      exact .inl ⟨c',rfl,h3.1,(ih t.length hnt rs t c' rfl hr hst hc').mpr ⟨by simpa using h1,by rw[←Zt7];exact h2,h3.2⟩⟩
   | succ j =>
    have noE:∀c',c≠0::c':=fun c' e2=>by
     rw[e,List.replicate_succ,List.cons_append]at e2
     injection e2 with e3 e4
     exact absurd e3 (by decide)
    constructor
    ·rintro(⟨c',e1,_⟩|⟨k',rs',c',e1,hf,e2,h2⟩)
     ·exact absurd e1 (noE c')
     ·obtain⟨f1,f2,f3⟩:=Zm4.mp hf
      have hk:=hr k' (by rw[e1];simp)
      have hr':∀k∈rs',1≤k:=fun k hk=>hr k (by rw[e1];exact List.mem_cons_of_mem _ hk)
      have hc':Qd5 c':=fun y hy=>hc y (by rw[e2];exact List.mem_append_right _ hy)
      have hs':Qd6 (t.drop k'):=fun y hy=>hst y (List.mem_of_mem_drop hy)
      have hlt:(t.drop k').length<n:=by rw[List.length_drop];omega
      obtain⟨q1,q2,q3⟩:=(ih _ hlt rs' (t.drop k') c' rfl hr' hs' hc').mp h2
      rw[List.length_drop]at q1
      have f1':k'≤t.length+1:=by simpa using f1
      by_cases hkn:k'<t.length+1
      ·have e3:c=List.replicate k' 1++0::c':=by
        rw[e2];unfold Qw7;rw[if_pos hkn];simp
       have hd:(x::t).drop k'=(x::t)[k']::t.drop k':=by rw[Xf6 (by simpa using hkn),List.drop_succ_cons]
       refine⟨by rw[e3];simp[q1];omega,by rw[e3,Xx1 hk,q2,e1];rfl,?_⟩
       rw[e3,Zx2 k' (x::t) _ f1 hs,f2,hd,Zx3 _ _ _ (hs _ (List.getElem_mem _)),q3]
       have:(x::t)[k']≠some 1:=fun z=>by
        rcases f3 with w|w
        ·simp at w;omega
        ·rw[List.getElem?_eq_getElem (by simpa using hkn),z]at w;exact w rfl
       rw[decide_eq_true this]
       rfl
      ·have hkn':k'=t.length+1:=by omega
       have hc0:c'=[]:=List.length_eq_zero_iff.mp (by omega)
       have e3:c=List.replicate k' 1:=by
        rw[e2,hc0];unfold Qw7;rw[if_neg hkn];simp
       have hrs:rs'=[]:=by
        rw[hc0]at q2
        cases rs' with
        | nil=>rfl
        | cons k r=>simp[Qw3,Qk2,Qf6]at q2
       refine⟨by rw[e3];simp[hkn'],by rw[e3,Zt8 hk,e1,hrs];rfl,?_⟩
       have:=Zx2 k' (x::t) [] f1 hs
       rw[List.append_nil]at this
       rw[e3,this,f2,hkn']
       simp[Qh7]
    ·rintro⟨h1,h2,h3⟩
     right
     rw[e,List.length_append,List.length_replicate]at h1
     have hjl:j+1≤(x::t).length:=by omega
     rw[e,Zx2 (j+1) (x::t) r hjl hs,Bool.and_eq_true]at h3
     rcases hrr with z|⟨c',z⟩
     ·subst z
      have hjn:j+1=t.length+1:=by simpa using h1
      rw[e,List.append_nil,Zt8 (by omega)]at h2
      have e1:rs=[j+1]:=Xx3 (by rw[←h2];rfl)
      refine⟨j+1,[],[],e1,Zm4.mpr ⟨hjl,h3.1,.inl (by simpa using hjn)⟩,?_,?_⟩
      ·rw[e];unfold Qw7;rw[if_neg (by omega)];simp
      ·rw[List.drop_eq_nil_of_le (by omega),Zb3,if_pos rfl];simp
     ·subst z
      have hjn:j+1<t.length+1:=by simp at h1;omega
      rw[e,Xx1 (by omega)]at h2
      cases rs with
      | nil=>simp[Qw3]at h2
      | cons k rs' =>
       have h2':((j+1:Nat):Int)::Qk2 c'=(k:Int)::Qw3 rs':=h2
       injection h2' with h4 h5
       have hk:j+1=k:=by omega
       subst hk
       have hd:(x::t).drop (j+1)=(x::t)[j+1]::t.drop (j+1):=by rw[Xf6 (by simpa using hjn),List.drop_succ_cons]
       rw[hd,Zx3 _ _ _ (hs _ (List.getElem_mem _)),Bool.and_eq_true,decide_eq_true_eq]at h3
       have hc':Qd5 c':=fun y hy=>hc y (by rw[e];exact List.mem_append_right _ (List.mem_cons_of_mem _ hy))
       have hs':Qd6 (t.drop (j+1)):=fun y hy=>hst y (List.mem_of_mem_drop hy)
       have hlt:(t.drop (j+1)).length<n:=by rw[List.length_drop];omega
       refine⟨j+1,rs',c',rfl,Zm4.mpr ⟨hjl,h3.1,.inr ?_⟩,?_,(ih _ hlt rs' _ c' rfl (fun k hk=>hr k (List.mem_cons_of_mem _ hk)) hs' hc').mpr ⟨?_,h5,h3.2.2⟩⟩
       ·rw[List.getElem?_eq_getElem (by simpa using hjn)]
        exact fun z=>h3.2.1 (Option.some.inj z)
       ·rw[e];unfold Qw7;rw[if_pos hjn];simp
       ·rw[List.length_drop];simp at h1;omega
theorem Xx4 {rs:List Nat}{x:Option Int}{t:Qj5}{c:List Int} (h:c∈layE rs (x::t)):∃c',c=0::c'∧x≠some 1∧c'∈layL rs t:=by
 unfold layE at h
 have h':c∈(if x=some 1 then [] else (layL rs t).map (fun c=>(0:Int)::c)):=h
 split at h'
 ·simp at h'
 ·rename_i h1
  obtain⟨c',h2,rfl⟩:=List.mem_map.mp h'
  exact⟨c',rfl,h1,h2⟩
theorem Xx5 {rs:List Nat}{s:Qj5}{c:List Int} (h:c∈layF rs s):∃k rs' c',rs=k::rs'∧Qe3 k s=true∧c=Qw7 k s.length++c'∧c'∈layL rs' (s.drop (k+1)):=by
 unfold layF at h
 cases rs with
 | nil=>simp at h
 | cons k rs' =>
  have h':c∈(if Qe3 k s=true then (layL rs' (s.drop (k+1))).map (fun c=>Qw7 k s.length++c) else []):=h
  split at h'
  ·rename_i h1
   obtain⟨c',h2,rfl⟩:=List.mem_map.mp h'
   exact⟨k,rs',c',rfl,h1,rfl,h2⟩
  ·simp at h'
theorem Xk0 (k n:Nat):Qd5 (Qw7 k n):=fun z hz=>by
 unfold Qw7 at hz
 rcases List.mem_append.mp hz with h|h
 ·exact .inr (List.eq_of_mem_replicate h)
 ·split at h
  ·exact .inl (by simpa using h)
  ·simp at h
theorem Xy9:∀(n:Nat) (rs:List Nat) (s:Qj5) (c:List Int),s.length=n→c∈layL rs s→Qd5 c:=by
 intro n
 induction n using Nat.strongRecOn with
 | _ n ih =>
  intro rs s c hn h
  cases s with
  | nil =>
   rw[Zb3]at h
   split at h
   ·have:c=[]:=by simpa using h
    subst this
    intro z hz;simp at hz
   ·simp at h
  | cons x t =>
   rw[Zb6]at h
   rcases List.mem_append.mp h with h|h
   ·obtain⟨c',rfl,_,h2⟩:=Xx4 h
    intro z hz
    rcases List.mem_cons.mp hz with e|e
    ·exact .inl e
    ·exact ih t.length (by rw[←hn];simp) rs t c' rfl h2 z e
   ·obtain⟨k,rs',c',_,_,rfl,h2⟩:=Xx5 h
    intro z hz
    rcases List.mem_append.mp hz with e|e
    ·exact Xk0 k _ z e
    ·exact ih _ (by rw[←hn,List.length_drop];simp;omega) rs' _ c' rfl h2 z e
open L2 in
theorem Xx6:∀(p a b:List Int),HT.lexLt (p++a) (p++b)=HT.lexLt a b
 | [],a,b=>rfl
 | x::p,a,b=>by
  rw[List.cons_append,List.cons_append,HT.lexLt_cons,if_pos rfl]
  exact Xx6 p a b
open L2 in
theorem Xl0:∀(n:Nat) (rs:List Nat) (s:Qj5),s.length=n→(∀k∈rs,1≤k)→(layL rs s).Pairwise (fun a b=>HT.lexLt a b=true):=by
 intro n
 induction n using Nat.strongRecOn with
 | _ n ih =>
  intro rs s hn hr
  cases s with
  | nil =>
   rw[Zb3]
   split
   ·exact List.pairwise_singleton _ _
   ·exact List.Pairwise.nil
  | cons x t =>
   rw[Zb6,List.pairwise_append]
   refine⟨?_,?_,?_⟩
   ·show (if x=some 1 then [] else (layL rs t).map (fun c=>(0:Int)::c)).Pairwise _
    split
    ·exact List.Pairwise.nil
    ·rw[List.pairwise_map]
     refine(ih t.length (by rw[←hn];simp) rs t rfl hr).imp fun {a b} h=>?_
     rw[HT.lexLt_cons,if_pos rfl]
     exact h
   ·unfold layF
    cases rs with
    | nil=>exact List.Pairwise.nil
    | cons k rs' =>
     show (if Qe3 k (x::t)=true then (layL rs' ((x::t).drop (k+1))).map (fun c=>Qw7 k (x::t).length++c) else []).Pairwise _
     split
     ·rw[List.pairwise_map]
      refine(ih _ (by rw[←hn,List.length_drop];simp;omega) rs' _ rfl (fun k hk=>hr k (List.mem_cons_of_mem _ hk))).imp fun {a b} h=>?_
      rw[Xx6]
      exact h
     ·exact List.Pairwise.nil
   ·intro a ha b hb
    obtain⟨a',rfl,_⟩:=Xx4 ha
    obtain⟨k,rs',b',e,_,rfl,_⟩:=Xx5 hb
    have hk:=hr k (by rw[e];simp)
    obtain⟨j,rfl⟩:∃j,k=j+1:=⟨k-1,by omega⟩
    unfold Qw7
    rw[List.replicate_succ,List.cons_append,List.cons_append,HT.lexLt_cons,if_neg (by decide)]
    rfl
end Rp
namespace Rp
open PySem L2
theorem Zk9:∀a:List Int,HT.lexLt a a=false
 | []=>HT.lexLt_nil_nil
 | x::r=>by rw[HT.lexLt_cons,if_pos rfl];exact Zk9 r
theorem Zc4:∀a b:List Int,HT.lexLt a b=true→HT.lexLt b a=false
 | [],[],h=>by rw[HT.lexLt_nil_nil]
 | [],y::s,h=>by rw[HT.lexLt_cons_nil]
 | x::r,[],h=>by rw[HT.lexLt_cons_nil]at h;cases h
 | x::r,y::s,h=>by
  rw[HT.lexLt_cons]at h ⊢
  by_cases e:x=y
  ·rw[if_pos e]at h
   rw[if_pos e.symm]
   exact Zc4 r s h
  ·rw[if_neg e]at h
   rw[if_neg (Ne.symm e)]
   have:=of_decide_eq_true h
   exact decide_eq_false (by omega)
theorem Xx7:∀{l1 l2:List (List Int)},l1.Pairwise (fun a b=>HT.lexLt a b=true)→l2.Pairwise (fun a b=>HT.lexLt a b=true)→(∀c,c∈l1↔c∈l2)→l1=l2
 | [],[],_,_,_=>rfl
 | [],b::l2,_,_,h=>by have:=(h b).mpr (List.mem_cons_self ..);cases this
 | a::l1,[],_,_,h=>by have:=(h a).mp (List.mem_cons_self ..);cases this
 | a::l1,b::l2,p1,p2,h=>by
  rw[List.pairwise_cons]at p1 p2
  have hab:a=b:=by
   rcases List.mem_cons.mp ((h a).mp (List.mem_cons_self ..)) with e|e
   ·exact e
   ·rcases List.mem_cons.mp ((h b).mpr (List.mem_cons_self ..)) with e'|e'
    ·exact e'.symm
    ·have q1:=p2.1 a e
     have q2:=p1.1 b e'
     rw[Zc4 _ _ q1]at q2
     cases q2
  subst hab
  have ht:∀c,c∈l1↔c∈l2:=fun c=>by
   constructor
   ·intro hc
    rcases List.mem_cons.mp ((h c).mp (List.mem_cons_of_mem _ hc)) with e|e
    ·have:=p1.1 c hc
     rw[e,Zk9]at this
     cases this
    ·exact e
   ·intro hc
    rcases List.mem_cons.mp ((h c).mpr (List.mem_cons_of_mem _ hc)) with e|e
    ·have:=p2.1 c hc
     rw[e,Zk9]at this
     cases this
    ·exact e
  rw[Xx7 p1.2 p2.2 ht]
def Qj1:Nat→List (List Int)
 | 0=>[[]]
 | n+1=>(Qj1 n).map (fun c=>0::c)++(Qj1 n).map (fun c=>1::c)
theorem Qf8:∀n,(Qj1 n).length=2^n
 | 0=>rfl
 | n+1=>by unfold Qj1;rw[List.length_append,List.length_map,List.length_map,Qf8 n,Nat.pow_succ];omega
theorem Qf9:∀(n:Nat) (c:List Int),c∈Qj1 n↔c.length=n∧Qd5 c
 | 0,c=>by
  unfold Qj1
  rw[List.mem_singleton]
  constructor
  ·rintro rfl;exact⟨rfl,fun z hz=>by cases hz⟩
  ·rintro⟨h,_⟩;exact List.length_eq_zero_iff.mp h
 | n+1,c=>by
  unfold Qj1
  rw[List.mem_append,List.mem_map,List.mem_map]
  constructor
  ·rintro(⟨d,hd,rfl⟩|⟨d,hd,rfl⟩)
   ·obtain⟨h1,h2⟩:=(Qf9 n d).mp hd
    refine⟨by rw[List.length_cons,h1],fun z hz=>?_⟩
    rcases List.mem_cons.mp hz with e|e
    ·exact .inl e
    ·exact h2 z e
   ·obtain⟨h1,h2⟩:=(Qf9 n d).mp hd
    refine⟨by rw[List.length_cons,h1],fun z hz=>?_⟩
    rcases List.mem_cons.mp hz with e|e
    ·exact .inr e
    ·exact h2 z e
  ·rintro⟨h1,h2⟩
   match c,h1,h2 with
   | z::d,h1,h2 =>
    have hd:d∈Qj1 n:=(Qf9 n d).mpr ⟨by simpa using h1,fun y hy=>h2 y (List.mem_cons_of_mem _ hy)⟩
    rcases h2 z (List.mem_cons_self ..) with e|e
    ·exact .inl ⟨d,hd,by rw[e]⟩
    ·exact .inr ⟨d,hd,by rw[e]⟩
theorem Qo5:∀n,(Qj1 n).Pairwise (fun a b=>HT.lexLt a b=true)
 | 0=>by unfold Qj1;exact List.pairwise_singleton ..
 | n+1=>by
  unfold Qj1
  rw[List.pairwise_append]
  refine⟨?_,?_,?_⟩
  ·rw[List.pairwise_map]
   refine(Qo5 n).imp fun {a b} h=>?_
   rw[HT.lexLt_cons,if_pos rfl]
   exact h
  ·rw[List.pairwise_map]
   refine(Qo5 n).imp fun {a b} h=>?_
   rw[HT.lexLt_cons,if_pos rfl]
   exact h
  ·intro a ha b hb
   obtain⟨a',_,rfl⟩:=List.mem_map.mp ha
   obtain⟨b',_,rfl⟩:=List.mem_map.mp hb
   rw[HT.lexLt_cons,if_neg (by decide)]
   rfl
def fitB (rs:List Nat) (s:Qj5) (c:List Int):Bool:=Qh7 s c&&decide (Qk2 c=Qw3 rs)
theorem Yw2 {rs:List Nat}{s:Qj5} (hr:∀k∈rs,1≤k) (hs:Qd6 s):(Qj1 s.length).filter (fitB rs s)=layL rs s:=by
 refine Xx7 ((Qo5 _).filter _) (Xl0 _ rs s rfl hr) fun c=>?_
 rw[List.mem_filter,Qf9]
 unfold fitB
 rw[Bool.and_eq_true,decide_eq_true_eq]
 constructor
 ·rintro⟨⟨h1,h2⟩,h3,h4⟩
  exact(Zl2 _ rs s c rfl hr hs h2).mpr ⟨h1,h4,h3⟩
 ·intro h
  have hb:=Xy9 _ rs s c rfl h
  obtain⟨h1,h2,h3⟩:=(Zl2 _ rs s c rfl hr hs hb).mp h
  exact⟨⟨h1,hb⟩,h3,h2⟩
end Rp
namespace Rp
open PySem L2
def Al (rs:List Nat) (s:Qj5) (p e:Nat) (b:Bool) (q d:Nat) (c':List Int):Prop:=p<q∨(q=p∧(e<d∨(d=e∧(b=true→c'∈layF (rs.drop e) (s.drop p)))))
structure BInv (rs:List Nat) (s:Qj5) (p e:Nat) (b:Bool) (R:Nat→Nat→Bool) (Em Fu:Nat→Bool):Prop where
 so:∀q d,q≤s.length→d≤rs.length→R q d=true→∃pre:List Int,pre.length=q∧∀c'∈layL (rs.drop d) (s.drop q),pre++c'∈layL rs s
 em:∀i,Em i=true→∃c∈layL rs s,c[i]?=some 0
 fu:∀i,Fu i=true→∃c∈layL rs s,c[i]?=some 1
 co:∀c∈layL rs s,∃(q d:Nat) (pre c':List Int),c=pre++c'∧pre.length=q∧q≤s.length∧d≤rs.length∧R q d=true∧c'∈layL (rs.drop d) (s.drop q)∧Al rs s p e b q d c'∧∀i,i<q→(c[i]?=some 0→Em i=true)∧(c[i]?=some 1→Fu i=true)
end Rp
namespace Rp
open PySem L2
abbrev View:=List Qj5
def Qz5 (v:View) (i j:Nat):Option Int:=(v.getD i []).getD j none
def setC (v:View) (i j:Nat) (x:Option Int):View:=v.set i ((v.getD i []).set j x)
def Qu6:Nat→Str
 | 0 => "row"
 | _+1 => "column"
def Qq7 (v:View) (side n:Nat):Qj5:=if side=0 then v.getD n [] else v.map fun s=>s.getD n none
structure Stp where
 side:Nat
 num:Nat
 cells:List (Nat×Option Int)
abbrev NSt:=View×List Stp
abbrev Brd:=List (List Int)×List (List Int)
def natR (xs:List Int):List Nat:=xs.map Int.toNat
def Qw8 (b:Brd) (side n:Nat):List Nat:=natR ((if side=0 then b.1 else b.2).getD n [])
def Qj8 (b:Brd) (l:Nat×Nat) (v:View):List (List Int):=layL (Qw8 b l.1 l.2) (Qq7 v l.1 l.2)
def unk (v:View):Nat:=(v.map fun s=>s.countP (·.isNone)).sum
structure VOk (h w:Nat) (v:View):Prop where
 len:v.length=h
 wid:∀s∈v,s.length=w
 bit:∀s∈v,Qd6 s
theorem VOk.row {h w:Nat}{v:View} (o:VOk h w v) {i:Nat} (hi:i<h):(v.getD i []).length=w∧Qd6 (v.getD i []):=by
 have hi':i<v.length:=by rw[o.len];exact hi
 rw[List.getD_eq_getElem?_getD,List.getElem?_eq_getElem hi']
 exact⟨o.wid _ (List.getElem_mem hi'),o.bit _ (List.getElem_mem hi')⟩
theorem VOk.setC {h w:Nat}{v:View} (o:VOk h w v) {i j:Nat}{x:Option Int} (hi:i<h) (hx:x=none∨x=some 0∨x=some 1):VOk h w (setC v i j x):=by
 obtain⟨h1,h2⟩:=o.row hi
 refine⟨by unfold Rp.setC;rw[List.length_set];exact o.len,fun s hs=>?_,fun s hs=>?_⟩
 ·unfold Rp.setC at hs
  rcases List.mem_or_eq_of_mem_set hs with z|z
  ·exact o.wid s z
  ·rw[z,List.length_set];exact h1
 ·unfold Rp.setC at hs
  rcases List.mem_or_eq_of_mem_set hs with z|z
  ·exact o.bit s z
  ·rw[z]
   intro y hy
   rcases List.mem_or_eq_of_mem_set hy with q|q
   ·exact h2 y q
   ·rw[q];exact hx
theorem Qk8 {h w:Nat}{v:View} (o:VOk h w v) {i j i' j':Nat}{x:Option Int} (hi:i<h) (hj:j<w):Qz5 (setC v i j x) i' j'=if i'=i∧j'=j then x else Qz5 v i' j':=by
 have hi':i<v.length:=by rw[o.len];exact hi
 have hw:=(o.row hi).1
 unfold Qz5 setC
 by_cases h1:i'=i
 ·subst h1
  rw[Qz4 (x:=(v.getD i' []).set j x) (List.getElem?_set_self hi')]
  by_cases h2:j'=j
  ·subst h2
   rw[if_pos ⟨rfl,rfl⟩,Qz4 (List.getElem?_set_self (by rw[hw];exact hj))]
  ·rw[if_neg (fun z=>h2 z.2),List.getD_eq_getElem?_getD,List.getElem?_set_ne (Ne.symm h2),←List.getD_eq_getElem?_getD]
 ·rw[if_neg (fun z=>h1 z.1)]
  congr 1
  rw[List.getD_eq_getElem?_getD,List.getElem?_set_ne (Ne.symm h1),←List.getD_eq_getElem?_getD]
def LOk (h w:Nat) (l:Nat×Nat):Prop:=(l.1=0∧l.2<h)∨(l.1=1∧l.2<w)
def lenL (h w:Nat) (l:Nat×Nat):Nat:=if l.1=0 then w else h
def posL (l:Nat×Nat) (p:Nat):Nat×Nat:=if l.1=0 then (l.2,p) else (p,l.2)
theorem Qv9 {h w:Nat}{v:View} (o:VOk h w v) {l:Nat×Nat} (hl:LOk h w l):(Qq7 v l.1 l.2).length=lenL h w l:=by
 unfold Qq7 lenL
 rcases hl with ⟨h1,h2⟩|⟨h1,h2⟩
 ·rw[if_pos h1,if_pos h1];exact(o.row h2).1
 ·rw[if_neg (by omega),if_neg (by omega),List.length_map];exact o.len
theorem Qw9 {h w:Nat}{v:View} (o:VOk h w v) {l:Nat×Nat} (hl:LOk h w l) {p:Nat} (hp:p<lenL h w l):(Qq7 v l.1 l.2).getD p none=Qz5 v (posL l p).1 (posL l p).2:=by
 unfold Qq7 posL Qz5
 unfold lenL at hp
 rcases hl with ⟨h1,h2⟩|⟨h1,h2⟩
 ·rw[if_pos h1,if_pos h1]
 ·rw[if_neg (by omega),if_neg (by omega)]
  rw[if_neg (by omega)]at hp
  have hp':p<v.length:=by rw[o.len];exact hp
  rw[Qz4 (x:=(v[p]).getD l.2 none) (by rw[List.getElem?_map,List.getElem?_eq_getElem hp'];rfl)]
  show _=(v.getD p []).getD l.2 none
  rw[Qz4 (List.getElem?_eq_getElem hp')]
theorem Qm0 {h w:Nat}{v:View} (o:VOk h w v) {l:Nat×Nat} (hl:LOk h w l):Qd6 (Qq7 v l.1 l.2):=by
 unfold Qq7
 rcases hl with ⟨h1,h2⟩|⟨h1,h2⟩
 ·rw[if_pos h1];exact(o.row h2).2
 ·rw[if_neg (by omega)]
  intro x hx
  obtain⟨s,hs,rfl⟩:=List.mem_map.mp hx
  have h3:=o.wid s hs
  have h4:l.2<s.length:=by omega
  rw[Qz4 (List.getElem?_eq_getElem h4)]
  exact o.bit s hs _ (List.getElem_mem h4)
theorem Qd0 {h w:Nat}{l:Nat×Nat} (hl:LOk h w l) {p:Nat} (hp:p<lenL h w l):(posL l p).1<h∧(posL l p).2<w:=by
 unfold posL
 unfold lenL at hp
 rcases hl with ⟨h1,h2⟩|⟨h1,h2⟩
 ·rw[if_pos h1]at hp ⊢;exact⟨h2,hp⟩
 ·rw[if_neg (by omega)]at hp ⊢;exact⟨hp,h2⟩
theorem Zs0 {l:Nat×Nat}{p q:Nat} (h:posL l p=posL l q):p=q:=by
 unfold posL at h
 by_cases h1:l.1=0
 ·rw[if_pos h1,if_pos h1]at h;exact(Prod.mk.inj h).2
 ·rw[if_neg h1,if_neg h1]at h;exact(Prod.mk.inj h).1
theorem Zt9:∀{s t:Qj5},s.length=t.length→(∀j,j<s.length→t.getD j none=none→s.getD j none=none)→t.countP (·.isNone)≤s.countP (·.isNone)
 | [],[],_,_=>Nat.le_refl _
 | [],_::_,h,_=>by simp at h
 | _::_,[],h,_=>by simp at h
 | x::s,y::t,h,g=>by
  have ih:=Zt9 (s:=s) (t:=t) (by simpa using h) fun j hj e=>by
   have:=g (j+1) (by simp;omega) (by simpa using e)
   simpa using this
  have g0:=g 0 (by simp)
  rw[List.countP_cons,List.countP_cons]
  cases y with
  | some z=>simp;omega
  | none =>
   have:x=none:=by simpa using g0 rfl
   subst this
   simp;omega
theorem Xn3:∀{s t:Qj5}{j:Nat},s.length=t.length→(∀j,j<s.length→t.getD j none=none→s.getD j none=none)→j<s.length→s.getD j none=none→t.getD j none≠none→t.countP (·.isNone)<s.countP (·.isNone)
 | [],_,j,_,_,hj,_,_=>by simp at hj
 | _::_,[],_,h,_,_,_,_=>by simp at h
 | x::s,y::t,0,h,g,hj,h1,h2=>by
  have ih:=Zt9 (s:=s) (t:=t) (by simpa using h) fun j hj e=>by
   have:=g (j+1) (by simp;omega) (by simpa using e)
   simpa using this
  rw[List.countP_cons,List.countP_cons]
  have e1:x=none:=by simpa using h1
  subst e1
  cases y with
  | some z=>simp;omega
  | none=>exact absurd rfl h2
 | x::s,y::t,j+1,h,g,hj,h1,h2=>by
  have ih:=Xn3 (s:=s) (t:=t) (j:=j) (by simpa using h) (fun j hj e=>by
   have:=g (j+1) (by simp;omega) (by simpa using e)
   simpa using this) (by simpa using hj) (by simpa using h1) (by simpa using h2)
  have g0:=g 0 (by simp)
  rw[List.countP_cons,List.countP_cons]
  cases y with
  | some z=>simp;omega
  | none =>
   have:x=none:=by simpa using g0 rfl
   subst this
   simp;omega
theorem Zv0 (s:Qj5) (v:View):unk (s::v)=s.countP (·.isNone)+unk v:=by unfold unk;rw[List.map_cons,List.sum_cons]
theorem Zb7:∀{w:Nat}{v v':View},v.length=v'.length→(∀s∈v,s.length=w)→(∀s∈v',s.length=w)→(∀i j,i<v.length→j<w→Qz5 v' i j=none→Qz5 v i j=none)→unk v'≤unk v
 | w,[],[],_,_,_,_=>Nat.le_refl _
 | w,[],_::_,h,_,_,_=>by simp at h
 | w,_::_,[],h,_,_,_=>by simp at h
 | w,s::v,t::v',h,h1,h2,g=>by
  have ih:=Zb7 (v:=v) (v':=v') (w:=w) (by simpa using h) (fun s hs=>h1 s (List.mem_cons_of_mem _ hs)) (fun s hs=>h2 s (List.mem_cons_of_mem _ hs)) fun i j hi hj e=>by
   have:=g (i+1) j (by simp;omega) hj (by unfold Qz5 at e ⊢;simpa using e)
   unfold Qz5 at this ⊢
   simpa using this
  have l1:=h1 s List.mem_cons_self
  have l2:=h2 t List.mem_cons_self
  have h0:=Zt9 (s:=s) (t:=t) (by omega) fun j hj e=>by
   have:=g 0 j (by simp) (by omega) (by unfold Qz5;simpa using e)
   unfold Qz5 at this
   simpa using this
  rw[Zv0,Zv0]
  omega
theorem Za0:∀{w:Nat}{v v':View}{i j:Nat},v.length=v'.length→(∀s∈v,s.length=w)→(∀s∈v',s.length=w)→(∀i j,i<v.length→j<w→Qz5 v' i j=none→Qz5 v i j=none)→i<v.length→j<w→Qz5 v i j=none→Qz5 v' i j≠none→unk v'<unk v
 | w,[],_,i,j,_,_,_,_,hi,_,_,_=>by simp at hi
 | w,_::_,[],i,j,h,_,_,_,_,_,_,_=>by simp at h
 | w,s::v,t::v',i,j,h,h1,h2,g,hi,hj,e1,e2=>by
  have gv:∀i j,i<v.length→j<w→Qz5 v' i j=none→Qz5 v i j=none:=fun i j hi hj e=>by
   have:=g (i+1) j (by simp;omega) hj (by unfold Qz5 at e ⊢;simpa using e)
   unfold Qz5 at this ⊢
   simpa using this
  have l1:=h1 s List.mem_cons_self
  have l2:=h2 t List.mem_cons_self
  have gs:∀j,j<s.length→t.getD j none=none→s.getD j none=none:=fun j hj e=>by
   have:=g 0 j (by simp) (by omega) (by unfold Qz5;simpa using e)
   unfold Qz5 at this
   simpa using this
  have r1:∀s∈v,s.length=w:=fun s hs=>h1 s (List.mem_cons_of_mem _ hs)
  have r2:∀s∈v',s.length=w:=fun s hs=>h2 s (List.mem_cons_of_mem _ hs)
  rw[Zv0,Zv0]
  cases i with
  | zero =>
   have a:=Xn3 (s:=s) (t:=t) (j:=j) (by omega) gs (by omega) (by unfold Qz5 at e1;simpa using e1) (by unfold Qz5 at e2;simpa using e2)
   have b:=Zb7 (v:=v) (v':=v') (w:=w) (by simpa using h) r1 r2 gv
   omega
  | succ i =>
   have a:=Zt9 (s:=s) (t:=t) (by omega) gs
   have b:=Za0 (v:=v) (v':=v') (w:=w) (i:=i) (j:=j) (by simpa using h) r1 r2 gv (by simpa using hi) hj (by unfold Qz5 at e1 ⊢;simpa using e1) (by unfold Qz5 at e2 ⊢;simpa using e2)
   omega
def LeV (h w:Nat) (v v':View):Prop:=∀i j,i<h→j<w→∀z,Qz5 v i j=some z→Qz5 v' i j=some z
theorem LeV.none {h w:Nat}{v v':View} (x:LeV h w v v') {i j:Nat} (hi:i<h) (hj:j<w) (e:Qz5 v' i j=none):Qz5 v i j=none:=by
 cases q:Qz5 v i j with
 | none=>rfl
 | some z=>rw[x i j hi hj z q]at e;cases e
theorem Yb3 {h w:Nat}{v v':View} (o:VOk h w v) (o':VOk h w v') (x:LeV h w v v'):unk v'≤unk v :=
 Zb7 (w:=w) (by rw[o.len,o'.len]) o.wid o'.wid fun i j hi hj e=>x.none (by rw[←o.len];exact hi) hj e
theorem Zg4 {h w:Nat}{v v':View} (o:VOk h w v) (o':VOk h w v') (x:LeV h w v v') {i j:Nat} (hi:i<h) (hj:j<w) (e1:Qz5 v i j=none) (e2:Qz5 v' i j≠none):unk v'<unk v :=
 Za0 (w:=w) (by rw[o.len,o'.len]) o.wid o'.wid (fun i j hi hj e=>x.none (by rw[←o.len];exact hi) hj e) (by rw[o.len];exact hi) hj e1 e2
end Rp
namespace Rp
open PySem L2
def dO:Option Int→Dt
 | none=>.non
 | some z=>.int z
def Qr3 (s:Qj5):Dt:=.lst (s.map dO)
theorem Yb4 {H:Hp} (x:Option Int):IsD H (dO x) (vO x):=by
 cases x with
 | none=>show IsD H .non .non;unfold IsD;rfl
 | some z=>show IsD H (.int z) (.int z);unfold IsD;rfl
theorem Za1 {H:Hp}:∀(s:Qj5),IsDs H (s.map dO) (Qj4 s)
 | []=>by show IsDs H [] [];unfold IsDs;rfl
 | x::s=>by
  show IsDs H (dO x::s.map dO) (vO x::Qj4 s)
  unfold IsDs
  exact⟨vO x,Qj4 s,rfl,Yb4 x,Za1 s⟩
theorem Xl1 {H:Hp}{x:Option Int}{v:V} (h:IsD H (dO x) v):v=vO x:=by
 cases x with
 | none=>unfold dO IsD at h;exact h
 | some z=>unfold dO IsD at h;exact h
theorem Zg5 {H:Hp}:∀{s:Qj5}{ys:List V},IsDs H (s.map dO) ys→ys=Qj4 s
 | [],ys,h=>by
  have h':IsDs H [] ys:=h
  unfold IsDs at h'
  exact h'
 | x::s,ys,h=>by
  have h':IsDs H (dO x::s.map dO) ys:=h
  unfold IsDs at h'
  obtain⟨y,r,rfl,hy,hr⟩:=h'
  rw[Xl1 hy,Zg5 hr]
  rfl
theorem Xx8 {H:Hp}{a:Addr}{s:Qj5} (h:H a=some (.lst (Qj4 s))):IsD H (Qr3 s) (.ref a):=by unfold Qr3 IsD;exact⟨a,_,rfl,h,Za1 s⟩
theorem Zq1 {H:Hp}{s:Qj5}{v:V} (h:IsD H (Qr3 s) v):∃a,v=.ref a∧H a=some (.lst (Qj4 s)):=by
 unfold Qr3 IsD at h
 obtain⟨a,ys,rfl,ha,hs⟩:=h
 rw[Zg5 hs]at ha
 exact⟨a,rfl,ha⟩
def Qe4 (v:View):Dt:=.lst (v.map Qr3)
theorem Xx9 {α:Type}{f:α→Dt}{n:Nat} (hf:∀x,Qy5 (f x)≤n):∀xs:List α,Qv1 (xs.map f)≤n
 | []=>by show Qv1 []≤n;unfold Qv1;exact Nat.zero_le _
 | x::r=>by
  show Qv1 (f x::r.map f)≤n
  unfold Qv1
  have h1:=hf x
  have h2:=Xx9 hf r
  omega
theorem Xg0 {H:Hp}{v:View}{a:Addr} (h:IsD H (Qe4 v) (.ref a)):∃vs,H a=some (.lst vs)∧IsDs H (v.map Qr3) vs:=by
 unfold Qe4 IsD at h
 obtain⟨b,vs,e,hb,hs⟩:=h
 cases e
 exact⟨vs,hb,hs⟩
theorem Xf7 {H:Hp}{v:View}{a:Addr}{vs:List V} (h:H a=some (.lst vs)) (hs:IsDs H (v.map Qr3) vs):IsD H (Qe4 v) (.ref a):=by
 unfold Qe4 IsD
 exact⟨a,vs,rfl,h,hs⟩
theorem Zv1 {α:Type}{f:α→Dt}{H:Hp}{xs:List α}{vs:List V}{i:Nat}{v:V} (hs:IsDs H (xs.map f) vs) (e:vs[i]?=some v):∃x,xs[i]?=some x∧IsD H (f x) v:=by
 obtain⟨d,e1,e2⟩:=hs.get' e
 rw[List.getElem?_map]at e1
 cases q:xs[i]? with
 | none=>rw[q]at e1;cases e1
 | some x=>rw[q]at e1;cases e1;exact⟨x,rfl,e2⟩
theorem Xg1 {α:Type}{f:α→Dt}{H:Hp}{xs:List α}{vs:List V}{i:Nat}{x:α} (hs:IsDs H (xs.map f) vs) (e:xs[i]?=some x):∃v,vs[i]?=some v∧IsD H (f x) v:=by
 obtain⟨v,e1,e2⟩:=hs.get (i:=i) (d:=f x) (by rw[List.getElem?_map,e];rfl)
 exact⟨v,e1,e2⟩
theorem Zj6 {α:Type}{f:α→Dt}{H:Hp}{xs:List α}{vs:List V} (hs:IsDs H (xs.map f) vs):vs.length=xs.length:=by rw[←hs.length,List.length_map]
def Ym0 (pc:Nat×Option Int):Dt:=.tup [.int (pc.1:Nat),dO pc.2]
def Ym1 (cs:List (Nat×Option Int)):Dt:=.lst (cs.map Ym0)
def dStp (p:Stp):Dt:=.tup [.str (Qu6 p.side),.int (p.num:Nat),Ym1 p.cells]
def hide (M:List Addr) (H:Hp):Hp:=fun a=>if a∈M then none else H a
def Ym2 (H0 H:Hp):Hp:=fun a=>match H0 a with|none=>H a|some _=>none
theorem Qt1 {M:List Addr}{H:Hp}:Same (hide M H) H:=fun b o e=>by
 unfold hide at e
 split at e
 ·cases e
 ·exact e
theorem Qr5 {M:List Addr}{H:Hp}{b:Addr}{o:HO} (e:H b=some o) (h:b∉M):hide M H b=some o:=by unfold hide;rw[if_neg h];exact e
theorem Qs5 {M:List Addr}{H H':Hp} (k:Qz2 H H' M):Same (hide M H) (hide M H'):=fun b o e=>by
 unfold hide at e ⊢
 split at e
 ·cases e
 ·rename_i h
  rw[if_neg h]
  exact k b o e h
theorem Qc0 {M:List Addr}{H H':Hp} (k:Same H H'):Same (hide M H) (hide M H'):=Qs5 fun b o e _=>k b o e
mutual
theorem IsD.keep {H H':Hp} (e:∀a xs,(H a=some (.lst xs)→H' a=some (.lst xs))∧(H a=some (.tup xs)→H' a=some (.tup xs))):∀{d:Dt}{v:V},IsD H d v→IsD H' d v
 | .non,v,h=>by unfold IsD at h ⊢;exact h
 | .bl _,v,h=>by unfold IsD at h ⊢;exact h
 | .int _,v,h=>by unfold IsD at h ⊢;exact h
 | .str _,v,h=>by unfold IsD at h ⊢;exact h
 | .lst ds,v,h=>by unfold IsD at h ⊢;obtain⟨a,xs,h1,h2,h3⟩:=h;exact⟨a,xs,h1,(e _ _).1 h2,IsDs.keep e h3⟩
 | .tup ds,v,h=>by unfold IsD at h ⊢;obtain⟨a,xs,h1,h2,h3⟩:=h;exact⟨a,xs,h1,(e _ _).2 h2,IsDs.keep e h3⟩
theorem IsDs.keep {H H':Hp} (e:∀a xs,(H a=some (.lst xs)→H' a=some (.lst xs))∧(H a=some (.tup xs)→H' a=some (.tup xs))):∀{ds:List Dt}{xs:List V},IsDs H ds xs→IsDs H' ds xs
 | [],xs,h=>by unfold IsDs at h ⊢;exact h
 | d::ds,xs,h=>by unfold IsDs at h ⊢;obtain⟨x,r,h1,h2,h3⟩:=h;exact⟨x,r,h1,IsD.keep e h2,IsDs.keep e h3⟩
end
structure OwnV (H0 H:Hp) (l:Addr) (as:List Addr) (xss:List (List V)):Prop where
 same:Same H0 H
 at':H l=some (.lst (as.map V.ref))
 len:as.length=xss.length
 row:∀(i:Nat) a xs,as[i]?=some a→xss[i]?=some xs→H a=some (.lst xs)
 nd:as.Nodup
 nl:l∉as
 new:∀a∈as,H0 a=none
 newl:H0 l=none
theorem OwnV.setRow {H0 H:Hp}{l:Addr}{as:List Addr}{xss:List (List V)} (o:OwnV H0 H l as xss) {i:Nat}{a:Addr} (e:as[i]?=some a) (ys:List V):OwnV H0 (upd H a (.lst ys)) l as (xss.set i ys):=by
 have hm:=List.mem_of_getElem? e
 refine⟨Qw6 o.same (o.new a hm),?_,by rw[List.length_set];exact o.len,fun j b xs e1 e2=>?_,o.nd,o.nl,o.new,o.newl⟩
 ·have nn:l≠a:=fun z=>o.nl (by rw[z];exact hm)
  rw[Qz1 nn]
  exact o.at'
 ·by_cases hj:j=i
  ·subst hj
   rw[e]at e1
   cases e1
   rw[List.getElem?_set_self (by rw[←o.len];exact(List.getElem?_eq_some_iff.mp e).1)]at e2
   cases e2
   exact Qq1
  ·rw[List.getElem?_set_ne (Ne.symm hj)]at e2
   have nn:b≠a:=fun z=>hj (Zq0 o.nd (by rw[←z];exact e1) e)
   rw[Qz1 nn]
   exact o.row j b xs e1 e2
theorem OwnV.isD {H0 H:Hp}{l:Addr}{as:List Addr}{v:View} (o:OwnV H0 H l as (v.map Qj4)):IsD H (Qe4 v) (.ref l):=by
 refine Xf7 o.at' (Ql2 (by have:=o.len;simp at this ⊢;omega) fun i d x e1 e2=>?_)
 rw[List.getElem?_map]at e1 e2
 cases q1:v[i]? with
 | none=>rw[q1]at e1;cases e1
 | some s =>
  cases q2:as[i]? with
  | none=>rw[q2]at e2;cases e2
  | some a =>
   rw[q1]at e1;rw[q2]at e2
   cases e1;cases e2
   exact Xx8 (o.row i a _ q2 (by rw[List.getElem?_map,q1];rfl))
structure GrowV (H0:Hp) (f:Nat→List V) (i:Nat) (as:List Addr) (H':Hp):Prop where
 same:Same H0 H'
 len:as.length=i
 row:∀(j:Nat) a,as[j]?=some a→H' a=some (.lst (f j))
 nd:as.Nodup
 new:∀a∈as,H0 a=none
theorem GrowV.zero {H0:Hp}{f:Nat→List V}:GrowV H0 f 0 [] H0:=⟨Same.refl _,rfl,fun j a e=>by simp at e,List.nodup_nil,fun a h=>by simp at h⟩
theorem GrowV.there {H0:Hp}{f:Nat→List V}{i:Nat}{as:List Addr}{H':Hp} (g:GrowV H0 f i as H') {b:Addr} (hb:H' b=none):b∉as:=fun z=>by
 obtain⟨j,hj,e⟩:=List.getElem_of_mem z
 have q:=g.row j b (by rw[List.getElem?_eq_getElem hj,e])
 rw[hb]at q;cases q
theorem GrowV.next {H0:Hp}{f:Nat→List V}{i:Nat}{as:List Addr}{H1 H2:Hp} (g:GrowV H0 f i as H1) (s:Same H1 H2) {b:Addr} (hb:H1 b=none) (h:H2 b=some (.lst (f i))):GrowV H0 f (i+1) (as++[b]) H2:=by
 refine⟨g.same.trans s,by rw[List.length_append,List.length_singleton,g.len],fun j a e=>?_,List.nodup_append.mpr ⟨g.nd,by simp,fun x hx y hy=>by rw[List.mem_singleton.mp hy];intro z;exact g.there hb (z▸hx)⟩,fun a ha=>?_⟩
 ·by_cases hj:j<as.length
  ·rw[List.getElem?_append_left hj]at e
   exact s _ _ (g.row j a e)
  ·rw[List.getElem?_append_right (by omega)]at e
   have hj0:j-as.length=0:=by
    have:=(List.getElem?_eq_some_iff.mp e).1
    simp at this
    omega
   rw[hj0]at e
   have e':b=a:=Option.some.inj e
   have e2:j=i:=by have:=g.len;omega
   rw[←e',e2]
   exact h
 ·rcases List.mem_append.mp ha with z|z
  ·exact g.new a z
  ·rw[List.mem_singleton.mp z];exact g.same.free hb
theorem GrowV.own {H0:Hp}{f:Nat→List V}{n:Nat}{as:List Addr}{H':Hp} (g:GrowV H0 f n as H') {l:Addr} (hl:H' l=none):OwnV H0 (upd H' l (.lst (as.map V.ref))) l as ((List.range n).map f):=by
 have s:Same H' (upd H' l (.lst (as.map V.ref))):=Qq5 hl
 refine⟨g.same.trans s,Qq1,by simp[g.len],fun i a xs e1 e2=>?_,g.nd,g.there hl,g.new,g.same.free hl⟩
 have hi:i<n:=by have:=(List.getElem?_eq_some_iff.mp e2).1;rw[List.length_map,List.length_range]at this;exact this
 rw[List.getElem?_map,List.getElem?_range hi]at e2
 cases e2
 exact s _ _ (g.row i a e1)
def Ym3 (tb lv lf:Addr):List (Str×V):=putF "found" (.ref lf) (putF "view" (.ref lv) (putF "board" (.ref tb) []))
abbrev mutL (c lv lf:Addr) (as:List Addr):List Addr:=c::lv::lf::as
structure NP (C:Addr) (H0 H:Hp) (c tb lv lf:Addr) (as:List Addr) (b:Brd) (st:NSt):Prop where
 ins:∃dx,H c=some (.ins C dx (Ym3 tb lv lf))
 vw:H lv=some (.lst (as.map V.ref))
 row:∀(i:Nat) a,as[i]?=some a→H a=some (.lst (Qj4 (st.1.getD i [])))
 len:as.length=st.1.length
 nd:as.Nodup
 dom:∀a,H a=none→H0 a=none
 fd:∃fs,H lf=some (.lst fs)∧IsDs (Ym2 H0 (hide (mutL c lv lf as) H)) (st.2.map dStp) fs
 bd:IsD (hide (mutL c lv lf as) H) (Qv8 b) (.ref tb)
 vf:lv≠lf
 va:lv∉as
 fa:lf∉as
section
variable {C:Addr}{H0 H H':Hp}{c tb lv lf:Addr}{as:List Addr}{b:Brd}{st:NSt}
end
end Rp
namespace Rp
open PySem L2
def sg (c:Nat):Str:=⟨#[c]⟩
theorem Zw6:∀(ns:List Int) (acc:Int),0≤acc→(Qh5 acc ns).sum+((Qh5 acc ns).length:Int)≤acc+ns.length+1
 | [],acc,h=>by
  unfold Qh5
  split
  ·simp
  ·simp;omega
 | z::r,acc,h=>by
  unfold Qh5
  rw[List.length_cons]
  split
  ·have:=Zw6 r (acc+1) (by omega)
   omega
  ·split
   ·have:=Zw6 r 0 (by omega)
    rw[List.sum_cons,List.length_cons]
    omega
   ·have:=Zw6 r 0 (by omega)
    omega
end Rp
namespace K12
open PySem L2 Rp
def top (i:Nat):Stmt:=PySem.Challenge.pw_runpaint_k11_whole_judged.main.body.getD i (.Pass ⟨0,0,0,0⟩)
abbrev Qo6:Stmt:=top 1
abbrev Qb1:Stmt:=top 2
abbrev Qn1:Stmt:=top 3
abbrev Qd1:Stmt:=top 4
abbrev Qp6:Stmt:=Qp4 (top 5) 0
abbrev Ql3:Stmt:=Qp4 (top 5) 1
abbrev Qp7:Stmt:=Qp4 (top 5) 2
abbrev Qp8:Stmt:=Qp4 (top 6) 0
abbrev Qr6:Stmt:=Qp4 (top 6) 1
abbrev Qb2:Stmt:=Qp4 (top 6) 2
abbrev Qh0:Stmt:=Qp4 (top 6) 3
abbrev Qm5:Stmt:=Qp4 (top 6) 4
abbrev Qh1:Stmt:=Qp4 (top 7) 0
abbrev Qy4:Stmt:=Qp4 (top 7) 1
abbrev Qf2:Stmt:=Qp4 (top 7) 2
abbrev Qv2:Stmt:=Qp4 (top 7) 3
abbrev Qp9:Stmt:=Qp4 (top 7) 4
abbrev Qh2:Stmt:=Qp4 (top 7) 5
abbrev Qm6:Stmt:=top 9
abbrev Qc1:Stmt:=top 10
abbrev Qn2:Stmt:=top 11
abbrev Qr7:Stmt:=top 12
abbrev Qc2:Stmt:=top 13
abbrev Qm7:Stmt:=top 14
abbrev Qm8:Stmt:=top 15
abbrev Qd2:Stmt:=top 16
abbrev Qc3:Stmt:=top 17
abbrev Qc4:Stmt:=top 18
abbrev Qb3:Stmt:=top 19
abbrev Qh3:Stmt:=top 20
abbrev Qh4:Stmt:=top 21
abbrev Qf0:Stmt:=top 22
abbrev Zx4:Stmt:=top 23
section
variable {P:Program}{w:World}{K:PySem.W.Frag}{mg:Str→Option Value}{base:Heap}
def Qt9 (K:PySem.W.Frag):Sp:=fun vs H Q _=>∃(a:Addr) (ns:List Int) (i:Nat),vs=[.ref a,.int i]∧SqL K H a (ns.map V.int)∧Q (.int (Qi0 ns i)) H
theorem Za2:FnScope ["script","k"] ["script","k"] (Qz0 Qm6):=⟨rfl,rfl,rfl,by decide +kernel,rfl,by decide +kernel,by decide +kernel⟩
theorem Za3 {f:Addr}{fd:FuncData} (F:Fun K "_law_cell_at" "_law_cell_at" Qm6 f fd) (B:Bt mg):FnOk P w K mg base CX0 1 f fd ["script","k"] (Qt9 K):=by
 refine F.ok Za2 (fun vs H Q E h=>?_) (fun cdv A outer s H vs Q E hr h=>?_)
 ·obtain⟨a,ns,i,rfl,_⟩:=h
  rfl
 ·obtain⟨a,ns,i,rfl,hS,k⟩:=h
  refine⟨_,(Qq4 (Qk1 (Qz8 Zw2 (pv 1) (Qx0 Zk5 rfl B.len Qj3 (Qq0 (pv 0) Qq3)) (Qx2 _))
   (Qq8 (Qz9 (Qx1 Ze1 (pv 0) (pv 1) (fun _ _=>rfl))))
   Qx8)
   (Qq8 (Qz9 Qq6))),?_⟩
  refine⟨_,rfl,_,rfl,a,_,rfl,.inl hS,_,_,rfl,rfl,_,rfl,?_⟩
  rw[List.length_map]
  refine ite2 (fun hc=>?_) (fun hc=>?_)
  ·have hi:i<ns.length:=by have:=of_decide_eq_true hc;omega
   refine⟨_,rfl,_,rfl,a,_,_,.int (Qi0 ns i),rfl,rfl,hS,Qx7 ?_,k⟩
   unfold Qi0
   rw[List.getElem?_map,List.getElem?_eq_getElem hi,List.getD_eq_getElem?_getD,List.getElem?_eq_getElem hi]
   rfl
  ·have hi:ns.length≤i:=by have:¬(i:Int)<ns.length:=fun z=>hc (decide_eq_true z);omega
   have e:Qi0 ns i=0:=by
    unfold Qi0
    rw[List.getD_eq_getElem?_getD,List.getElem?_eq_none hi]
    rfl
   rw[e]at k
   exact k
def Qe5:Sp:=fun vs H Q _=>∃(c k:Int),vs=[.int c,.int k]∧Q (.int (mixZ c k)) H
theorem Zc5:FnScope ["cell","k","mixed"] ["cell","k"] (Qz0 Qn2):=⟨rfl,rfl,rfl,by decide +kernel,rfl,by decide +kernel,by decide +kernel⟩
theorem Xb4 {f:Addr}{fd:FuncData} (F:Fun K "_law_mix" "_law_mix" Qn2 f fd):FnOk P w K mg base CX0 1 f fd ["cell","k"] Qe5:=by
 refine F.ok Zc5 (fun vs H Q E h=>?_) (fun cdv A outer s H vs Q E hr h=>?_)
 ·obtain⟨c,k,rfl,_⟩:=h
  rfl
 ·obtain⟨c,kk,rfl,k⟩:=h
  refine⟨_,(Qq4 (Qz6 (i:=2) Zc5.nd rfl (Or.inl rfl) (Qz7 Ql8 (Qz7 Qy1 (Qz7 Qy1 (Qz7 Zp9 (pv 0) Qq6) (Qz7 Zp9 Qq6 (pv 1))) Qq6) Qq6))
   (Qq8 (Qz9 (Qz7 Ql8 (Qz7 Qy1 (Qz7 Qy1 (Qz7 Zp9 (pv 2) (pv 2)) (Qz7 Zp9 Qq6 (pv 2))) (pv 1)) Qq6)))),?_⟩
  have hm:=Xe2 c kk
  refine⟨_,rfl,_,_,rfl,rfl,.inr ⟨by decide,by decide⟩,_,rfl,_,_,rfl,rfl,.inl ⟨by decide,by decide⟩,_,_,rfl,rfl,_,_,rfl,rfl,_,_,rfl,rfl,(pz rfl),?_⟩
  refine⟨_,rfl,_,rfl,_,_,rfl,rfl,.inl ⟨by omega,by omega⟩,_,rfl,_,_,rfl,rfl,.inl ⟨by decide,by decide⟩,_,_,rfl,rfl,_,rfl,_,_,rfl,rfl,_,_,rfl,rfl,(pz rfl),k⟩
theorem Qc5:FnScope ["cells","found","count","cell"] ["cells"] (Qz0 Qr7):=⟨rfl,rfl,rfl,by decide +kernel,rfl,by decide +kernel,by decide +kernel⟩
def Qa0:Sp:=fun vs H Q _=>∃(a:Addr) (ns:List Int),vs=[.ref a]∧H a=some (.lst (ns.map V.int))∧ns.length≤999 ∧
 ∀(t:Addr) (H':Hp),Same H H'→H t=none→H' t=some (.tup ((Qk2 ns).map V.int))→Q (.ref t) H'
theorem Xg2 {f:Addr}{fd:FuncData} (F:Fun K "_law_runs" "_law_runs" Qr7 f fd) (B:Bt mg):FnOk P w K mg base CX0 1 f fd ["cells"] Qa0:=by
 refine F.ok Qc5 (fun vs H Q E h=>?_) (fun cdv A outer s H vs Q E hr h=>?_)
 ·obtain⟨a,ns,rfl,_⟩:=h
  rfl
 ·obtain⟨a,ns,rfl,hS,hn,k⟩:=h
  refine⟨_,(Qq4 (Qz6 (i:=1) Qc5.nd rfl (Or.inl rfl) (Qv7 Qq3))
   (Qq4 (Qz6 (i:=2) Qc5.nd rfl (Or.inl rfl) Qq6)
   (Qq4 (Qf3 PassesOwn.never rfl (Zd8 (Qz7 Zy9 (pv 0) (Qv7 (Qq0 Qq6 Qq3)))) (Qx3 (i:=3) Qc5.nd rfl (Or.inl rfl))
   (Qq8 (Qk1 (Qz8 Qb5 (pv 3) Qq6 (Qx2 _))
   (Qq8 (Qz6 (i:=2) Qc5.nd rfl (Or.inl rfl) (Qz7 Qy1 (pv 2) Qq6)))
   (Qq8 (Qk1 (Qz8 Zi0 (pv 2) Qq6 (Qx2 _))
   (Qq4 (Qh8 (Qs7 PySem.F.plainAttrs_list PySem.F.slot_list_append PySem.F.type_list_append Qd3 (pv 1) (Qq0 (pv 2) Qq3)))
   (Qq8 (Qz6 (i:=2) Qc5.nd rfl (Or.inl rfl) Qq6)))
   Qx8)))))
   (Qq8 (Qz9 (Qv0 Qn9 rfl B.tuple Ql1 (Qq0 (pv 1) Qq3))))))),?_⟩
  refine⟨Nat.zero_le _,fun l hl=>?_⟩
  have s1:∀o,Same H (upd H l o):=fun o=>Qq5 hl
  refine⟨_,rfl,(by show 1≤sizeLine;decide),fun z hz=>?_⟩
  have nla:a≠l:=Qk4 hS hl
  have nza:a≠z:=Qk4 (s1 _ _ _ hS) hz
  have nzl:z≠l:=fun e=>by subst e;rw[Qq1]at hz;cases hz
  refine⟨a,z,_,_,rfl,rfl,(by rw[Qz1 nza];exact s1 _ _ _ hS),Qq1,(by rw[List.length_map];exact Nat.le_of_lt (Qv4 (by show ns.length+1≤1000;omega))),fun c hc=>?_⟩
  have nHz:H z=none:=(s1 _).free hz
  have nHc:H c=none:=(s1 (.lst [])).free ((Qq5 hz).free hc)
  have ncl:c≠l:=fun e=>by subst e;rw[Qz1 (Ne.symm nzl),Qq1]at hc;cases hc
  have ncz:c≠z:=fun e=>by subst e;rw[Qq1]at hc;cases hc
  have eN:ns.map V.int++[V.int 0]=(ns++[0]).map V.int:=by rw[List.map_append];rfl
  rw[eN]
  refine⟨c,rfl,⟨_,SqL.of Qq1⟩,Zc9 (K:=K) (a:=c) (xs:=(ns++[0]).map V.int) (fun i σ H2=>∃v:Option V,σ=[some (.ref a),some (.ref l),some (.int (Qf6 ((ns++[0]).take i)).2),v]∧Same H H2∧H2 c=some (.lst ((ns++[0]).map V.int))∧H2 l=some (.lst ((Qf6 ((ns++[0]).take i)).1.map V.int)))
   ⟨none,rfl,Qw6 (Qw6 (s1 _) nHz) nHc,Qq1,by rw[Qz1 (Ne.symm ncl),Qz1 (Ne.symm nzl),Qq1];rfl⟩ ?_ ?_ ?_⟩
  ·rintro i σ H2 _ ⟨v,rfl,_,hc2,_⟩
   exact SqL.of hc2
  ·rintro i x σ H2 hi ⟨v,rfl,s2,hc2,hl2⟩
   obtain⟨z,hz,rfl⟩:=Xp9 hi
   have hlen:(Qf6 ((ns++[0]).take i)).1.length≤1000:=Nat.le_trans (Xy7 _) (by rw[List.length_take,List.length_append,List.length_singleton];omega)
   have hst:=Xd8 hz
   refine⟨_,rfl,rfl,_,rfl,?_⟩
   refine ite2 (fun hc=>?_) (fun hc=>?_)
   ·have hz1:z=1:=Xw8.mp hc
    refine⟨_,rfl,_,_,rfl,rfl,?_⟩
    show ∃v,_
    rw[hst]
    unfold Ql6
    rw[if_pos hz1]
    exact⟨_,rfl,s2,hc2,hl2⟩
   ·have hz1:z≠1:=fun e=>hc (Xw8.mpr e)
    refine⟨_,rfl,_,_,rfl,rfl,_,rfl,?_⟩
    refine ite2 (fun hp=>?_) (fun hp=>?_)
    ·have hp':=of_decide_eq_true hp
     refine⟨_,rfl,.inl ⟨rfl,_,SqL.of hl2⟩,_,rfl,l,_,_,rfl,rfl,hl2,Qv4 (by rw[List.length_map];exact hlen),?_⟩
     show ∃v,_
     rw[hst]
     unfold Ql6
     rw[if_neg hz1,if_pos hp']
     refine⟨_,rfl,Qw6 s2 hl,by rw[Qz1 ncl];exact hc2,?_⟩
     rw[Qq1,List.map_append]
     rfl
    ·have hp':¬0<(Qf6 ((ns++[0]).take i)).2:=fun e=>hp (decide_eq_true e)
     show ∃v,_
     rw[hst]
     unfold Ql6
     rw[if_neg hz1,if_neg hp']
     exact⟨_,rfl,s2,hc2,hl2⟩
  ·rintro σ H2 ⟨v,rfl,s2,hc2,hl2⟩
   rw[List.length_map,List.take_length,Xn1]at hl2
   refine⟨_,rfl,l,_,rfl,.inl ⟨SqL.of hl2,fun t ht=>?_⟩⟩
   exact k t _ (Qw6 s2 (s2.free ht)) (s2.free ht) Qq1
end
section
variable {P:Program}{w:World}{K:PySem.W.Frag}{mg:Str→Option Value}{base:Heap}
def Zm5:Sp:=fun vs H Q _=>∃(a:Addr) (xss:List (List Int)) (j:Nat),vs=[.ref a,.int j]∧IsD H (Qk6 xss) (.ref a)∧(∀xs∈xss,j<xs.length)∧xss.length≤100 ∧
 ∀l,H l=none→Q (.ref l) (upd H l (.lst ((colZ xss j).map V.int)))
theorem Xe6 {xss:List (List Int)}{i j:Nat}{xs:List Int} (h:xss[i]?=some xs):colZ (xss.take (i+1)) j=colZ (xss.take i) j++[xs.getD j 0]:=by
 unfold colZ
 rw[List.take_add_one,h,List.map_append]
 rfl
theorem Ze6:FnScope ["rows","at"] ["rows","at"] (Qz0 Qd2):=⟨rfl,rfl,rfl,by decide +kernel,rfl,by decide +kernel,by decide +kernel⟩
theorem Ze7 {f:Addr}{fd:FuncData} (F:Fun K "_law_column" "_law_column" Qd2 f fd) (B:Bt mg):FnOk P w K mg base CX0 1 f fd ["rows","at"] Zm5:=by
 refine F.ok Ze6 (fun vs H Q E h=>?_) (fun cdv A outer s H vs Q E hr h=>?_)
 ·obtain⟨a,xss,j,rfl,_⟩:=h
  rfl
 ·obtain⟨a,xss,j,rfl,hd,hj,hn,k⟩:=h
  refine⟨_,(Qq8 (Qz9 (Qp5 ["row"] [1] ⟨rfl,rfl,rfl,rfl,rfl⟩ rfl (Zd8 (pv 0)) (fun _ _ _ _ _=>(Qx3 (i:=0) (show (["row","at"]:List Str).Nodup by decide +kernel) rfl (Or.inl rfl))) (fun _ _ _ _ _=>Qw5 (Qx1 (Qk0 K) (pv 0) (pv 1) (fun _ _=>rfl)))))),?_⟩
  obtain⟨vs,ha,hs⟩:=Zb1 hd
  have hvl:=Qb0 hs
  refine⟨_,rfl,a,rfl,⟨_,SqL.of ha⟩,Qw0 (K:=K) (a:=a) (xs:=vs) (fun i ys H'=>H'=H∧ys=(colZ (xss.take i) j).map V.int) ⟨rfl,rfl⟩ ?_ ?_ ?_ ?_ ?_⟩
  ·exact Nat.le_of_lt (Qv4 (by omega))
  ·rintro i ys H' ⟨_,rfl⟩
   simp[colZ,List.length_take]
   omega
  ·rintro i ys H' _ ⟨rfl,_⟩
   exact SqL.of ha
  ·rintro i x ys H' hi ⟨rfl,rfl⟩
   obtain⟨xs,hx,hxd⟩:=Qu4 hs hi
   obtain⟨b,rfl,hb⟩:=Zj4 hxd
   have hjx:=hj xs (List.mem_of_getElem? hx)
   refine⟨rfl,?_⟩
   refine⟨_,rfl,_,rfl,b,_,_,.int (xs.getD j 0),rfl,rfl,SqL.of hb,Qx7 ?_,rfl,?_⟩
   ·rw[List.getElem?_map,List.getElem?_eq_getElem hjx,Qz4 (List.getElem?_eq_getElem hjx)]
    rfl
   ·rw[Xe6 hx,List.map_append]
    rfl
  ·rintro ys H' ⟨rfl,rfl⟩ l hl
   rw[hvl,List.take_length]
   exact k l hl
def Zb8:Sp:=fun vs H Q _=>∃(a:Addr) (xss:List (List Int)) (wd:Nat),vs=[.ref a]∧IsD H (Qk6 xss) (.ref a)∧1≤xss.length∧xss.length≤100∧wd≤100∧(∀xs∈xss,xs.length=wd) ∧
 ∀(t:Addr) (H':Hp),Same H H'→IsD H' (Qv8 (Qe9 xss wd)) (.ref t)→Q (.ref t) H'
theorem Zp8:FnScope ["picture","columns"] ["picture"] (Qz0 Qc3):=⟨rfl,rfl,rfl,by decide +kernel,rfl,by decide +kernel,by decide +kernel⟩
theorem Xk1 {f:Addr}{fd:FuncData} (F:Fun K "_law_board" "_law_board" Qc3 f fd) (B:Bt mg) (c__law_column:Callee P w K mg base CX0 "_law_column" 1 ["rows","at"] Zm5) (c__law_runs:Callee P w K mg base CX0 "_law_runs" 1 ["cells"] Qa0):FnOk P w K mg base CX0 3 f fd ["picture"] Zb8:=by
 refine F.ok Zp8 (fun vs H Q E h=>?_) (fun cdv A outer s H vs Q E hr h=>?_)
 ·obtain⟨a,xss,wd,rfl,_⟩:=h
  rfl
 ·obtain⟨a,xss,wd,rfl,hd,h1,hn,hw,hl,k⟩:=h
  refine⟨_,(Qq4 (Qf5 (i:=1) ["at"] [0] Zp8.nd rfl rfl ⟨rfl,rfl,rfl,rfl,rfl⟩ rfl (Qy8 rfl B.range (Qq0 (Qx0 Zk5 rfl B.len Qj3 (Qq0 (Qx1 Ze1 (pv 0) Qq6 (fun _ _=>rfl)) Qq3)) Qq3)) (fun _ _ _ _ _=>(Qx3 (i:=0) (show (["at","picture"]:List Str).Nodup by decide +kernel) rfl (Or.inl rfl))) (fun _ _ _ _ _=>Qw5 (Qj6 c__law_runs hr (Qq0 (Qj6 c__law_column hr (Qq0 (pv 1) (Qq0 (pv 0) Qq3))) Qq3))))
   (Qq8 (Qz9 (Qy9 (Qq0 (Qv0 Qn9 rfl B.tuple Ql1 (Qq0 (Qp5 ["row"] [] ⟨rfl,rfl,rfl,rfl,rfl⟩ rfl (Zd8 (pv 0)) (fun _ _ _ _ _=>(Qx3 (i:=0) (show (["row"]:List Str).Nodup by decide +kernel) rfl (Or.inl rfl))) (fun _ _ _ _ _=>Qw5 (Qj6 c__law_runs hr (Qq0 (pv 0) Qq3)))) Qq3)) (Qq0 (Qv0 Qn9 rfl B.tuple Ql1 (Qq0 (pv 1) Qq3)) Qq3)))))),?_⟩
  obtain⟨vs,ha,hs⟩:=Zb1 hd
  have hvl:=Qb0 hs
  obtain⟨v0,hv0⟩:∃v0,vs[0]?=some v0:=⟨_,List.getElem?_eq_getElem (by omega)⟩
  obtain⟨xs0,hx0,hd0⟩:=Qu4 hs hv0
  obtain⟨b0,rfl,hb0⟩:=Zj4 hd0
  have hw0:xs0.length=wd:=hl xs0 (List.mem_of_getElem? hx0)
  have hw1:((xs0.map V.int).length:Int)=(wd:Int):=by rw[List.length_map,hw0]
  refine⟨_,rfl,a,_,0,.ref b0,rfl,rfl,SqL.of ha,Qx7 hv0,b0,_,rfl,.inl (SqL.of hb0),(wd:Int),(by rw[hw1]),by omega,by omega,Zz7 (PvD H fun j=>dTup (Qk2 (colZ xss j))) (PvD.zero (Same.refl H)) ?_ ?_ ?_ ?_⟩
  ·exact Nat.le_of_lt (Qv4 (by omega))
  ·exact fun i ys H' p=>p.len
  ·intro i ys H' hi p
   refine⟨rfl,?_⟩
   refine⟨_,rfl,_,rfl,a,xss,i,(by rw[Int.zero_add];rfl),IsD.mono p.1 hd,fun xs hx=>by rw[hl xs hx];omega,hn,fun l hl'=>?_⟩
   refine⟨l,_,rfl,Qq1,(by unfold colZ;rw[List.length_map];omega),fun t H2 s2 nt ht=>p.next ((Qq5 hl').trans s2) (Zg3 ht)⟩
  ·intro ys H' p l hl'
   have s1:Same H' (upd H' l (.lst ys)):=Qq5 hl'
   have q:=p.2
   rw[show ((wd:Int)).toNat=wd by omega]at q
   have q1:=IsDs.mono s1 q
   have ha1:=(p.1.trans s1) _ _ ha
   have hs1:=IsDs.mono (p.1.trans s1) hs
   refine⟨_,rfl,a,rfl,⟨_,SqL.of ha1⟩,Qw0 (K:=K) (a:=a) (xs:=vs) (PvD (upd H' l (.lst ys)) fun i=>dTup (Qk2 (xss.getD i []))) (PvD.zero (Same.refl _)) ?_ ?_ ?_ ?_ ?_⟩
   ·exact Nat.le_of_lt (Qv4 (by omega))
   ·exact fun i ys H' p=>p.len
   ·exact fun i ys H' _ p=>SqL.of (p.1 _ _ ha1)
   ·intro i x zs H3 hi p3
    obtain⟨xs,hx,hxd⟩:=Qu4 hs1 hi
    obtain⟨b,rfl,hb⟩:=Zj4 hxd
    refine⟨rfl,?_⟩
    refine⟨_,rfl,b,xs,rfl,p3.1 _ _ hb,(by rw[hl xs (List.mem_of_getElem? hx)];omega),fun t H4 s4 nt ht=>p3.next s4 ?_⟩
    rw[Qz4 hx]
    exact Zg3 ht
   ·intro zs H3 p3 m hm
    refine⟨m,_,rfl,.inl ⟨SqL.of Qq1,fun t1 ht1=>?_⟩⟩
    have s4:Same H3 (upd H3 m (.lst zs)):=Qq5 hm
    have s5:Same (upd H3 m (.lst zs)) (upd (upd H3 m (.lst zs)) t1 (.tup zs)):=Qq5 ht1
    have hl3:=s5 _ _ (s4 _ _ (p3.1 _ _ (Qq1 (H:=H') (a:=l) (o:=.lst ys))))
    refine⟨_,rfl,l,_,rfl,.inl ⟨SqL.of hl3,fun t2 ht2=>?_⟩⟩
    refine⟨(by show 2≤sizeLine;decide),fun t3 ht3=>?_⟩
    have s6:=Qq5 (o:=.tup ys) ht2
    have s7:=Qq5 (o:=.tup [.ref t1,.ref t2]) ht3
    refine k t3 _ ((p.1.trans s1).trans (p3.1.trans (s4.trans (s5.trans (s6.trans s7))))) (Xy8 Qq1 ?_ ?_)
    ·refine Zl1 (s7 _ _ (s6 _ _ Qq1)) ?_
     have z:=p3.2
     rw[hvl,Zm3 (fun xs=>dTup (Qk2 xs)) []]at z
     show IsDs _ ((xss.map Qk2).map dTup) zs
     rw[List.map_map]
     exact IsDs.mono (s4.trans (s5.trans (s6.trans s7))) z
    ·refine Zl1 (s7 _ _ Qq1) ?_
     show IsDs _ (((List.range wd).map fun j=>Qk2 (colZ xss j)).map dTup) ys
     rw[List.map_map]
     exact IsDs.mono (p3.1.trans (s4.trans (s5.trans (s6.trans s7)))) q1
end
section
variable {P:Program}{w:World}{K:PySem.W.Frag}{mg:Str→Option Value}{base:Heap}
def Qa1:Sp:=fun vs H Q _=>∃(c:Int) (r wd:Nat),vs=[.int c,.int r,.int wd]∧r≤100∧wd≤100∧∀(a:Addr) (H':Hp),Same H H'→H a=none→IsD H' (Qk6 (picZ c r wd)) (.ref a)→Q (.ref a) H'
theorem Qg8:FnScope ["cell","rows","columns","dense","found","row","line","at","drawn"] ["cell","rows","columns"] (Qz0 Qm8):=⟨rfl,rfl,rfl,by decide +kernel,rfl,by decide +kernel,by decide +kernel⟩
theorem Za4 {f:Addr}{fd:FuncData} (F:Fun K "_law_picture" "_law_picture" Qm8 f fd) (B:Bt mg) (c__law_mix:Callee P w K mg base CX0 "_law_mix" 1 ["cell","k"] Qe5):FnOk P w K mg base CX0 2 f fd ["cell","rows","columns"] Qa1:=by
 refine F.ok Qg8 (fun vs H Q E h=>?_) (fun cdv A outer s H vs Q E hr h=>?_)
 ·obtain⟨c,r,wd,rfl,_⟩:=h
  rfl
 ·obtain⟨c,r,wd,rfl,hr1,hw1,k⟩:=h
  refine⟨_,(Qq4 (Qz6 (i:=3) Qg8.nd rfl (Or.inl rfl) (Qz7 Ql8 (Qj6 c__law_mix hr (Qq0 (pv 0) (Qq0 Qq6 Qq3))) Qq6))
   (Qq4 (Qz6 (i:=4) Qg8.nd rfl (Or.inl rfl) (Qv7 Qq3))
   (Qq4 (Qf3 PassesOwn.never rfl (Qy8 rfl B.range (Qq0 (pv 1) Qq3)) (Qx3 (i:=5) Qg8.nd rfl (Or.inl rfl))
   (Qq4 (Qz6 (i:=6) Qg8.nd rfl (Or.inl rfl) (Qv7 Qq3))
   (Qq4 (Qf3 PassesOwn.never rfl (Qy8 rfl B.range (Qq0 (pv 2) Qq3)) (Qx3 (i:=7) Qg8.nd rfl (Or.inl rfl))
   (Qq4 (Qz6 (i:=8) Qg8.nd rfl (Or.inl rfl) (Qz7 Ze0 (Qj6 c__law_mix hr (Qq0 (pv 0) (Qq0 (Qz7 Qy1 (Qz7 Qy1 Qq6 (Qz7 Zp9 Qq6 (pv 5))) (pv 7)) Qq3))) Qq6))
   (Qq8 (Qh8 (Qs7 PySem.F.plainAttrs_list PySem.F.slot_list_append PySem.F.type_list_append Qd3 (pv 6) (Qq0 (Qv0 Xq7 rfl B.int Xw7 (Qq0 (Zj1 Zi0 (Qz7 Ql8 (pv 8) Qq6) (pv 3) (Qx2 _)) Qq3)) Qq3))))))
   (Qq8 (Qh8 (Qs7 PySem.F.plainAttrs_list PySem.F.slot_list_append PySem.F.type_list_append Qd3 (pv 4) (Qq0 (pv 6) Qq3)))))))
   (Qq8 (Qz9 (pv 4)))))),?_⟩
  refine⟨_,rfl,_,_,rfl,_,_,rfl,rfl,pz rfl,?_⟩
  refine⟨Nat.zero_le _,fun l hl=>?_⟩
  refine⟨_,rfl,_,rfl,by omega,by omega,Zw1 (lo:=0) (n:=((r:Int)).toNat) (fun i σ H2=>∃(o5 o6 o7 o8:Option V) (vs:List V) (Hb:Hp),σ=[some (.int c),some (.int r),some (.int wd),some (.int (mixZ c 3%3)),some (.ref l),o5,o6,o7,o8] ∧
   Same H Hb∧Hb l=none∧IsDs Hb ((List.range i).map fun i=>dRow (Zk8 c wd i)) vs∧H2=upd Hb l (.lst vs)) ⟨none,none,none,none,[],H,rfl,Same.refl H,hl,(by show IsDs H [] [];unfold IsDs;rfl),rfl⟩ ?_ ?_⟩
  ·rintro i σ H2 hi ⟨o5,o6,o7,o8,vs,Hb,rfl,sb,hbl,hds,rfl⟩
   have hvl:vs.length=i:=by have:=hds.length;rw[List.length_map,List.length_range]at this;omega
   refine⟨Nat.zero_le _,fun m hm=>?_⟩
   have nml:m≠l:=fun z=>by rw[z,Qq1]at hm;cases hm
   have hbm:Hb m=none:=by rw[Qz1 nml]at hm;exact hm
   refine⟨_,rfl,_,rfl,by omega,by omega,Zw1 (lo:=0) (n:=((wd:Int)).toNat) (fun j σ H3=>∃(o7 o8:Option V),σ=[some (.int c),some (.int r),some (.int wd),some (.int (mixZ c 3%3)),some (.ref l),some (.int (0+(i:Int))),some (.ref m),o7,o8] ∧
    H3=upd (upd Hb l (.lst vs)) m (.lst (((List.range j).map fun j=>pixZ c i j).map V.int))) ⟨_,_,rfl,rfl⟩ ?_ ?_⟩
   ·rintro j σ H3 hj ⟨o7,o8,rfl,rfl⟩
    refine⟨_,rfl,_,rfl,_,_,rfl,rfl,.inl ⟨by decide,by decide⟩,_,_,rfl,rfl,_,rfl,_,_,rfl,rfl,_,_,rfl,_,_,rfl,rfl,⟨by decide,by decide⟩,?_⟩
    refine⟨_,rfl,.inl ⟨rfl,_,SqL.of Qq1⟩,_,rfl,_,_,rfl,rfl,pz rfl,_,rfl,_,_,rfl,rfl,.inr ⟨_,rfl,m,_,_,rfl,rfl,Qq1,Qv4 (by simp;omega),?_⟩⟩
    refine⟨_,_,rfl,?_⟩
    rw[Xp0,List.range_succ]
    simp[pixZ]
   ·rintro σ H3 ⟨o7,o8,rfl,rfl⟩
    have hl3:upd (upd Hb l (.lst vs)) m (.lst (((List.range ((wd:Int)).toNat).map fun j=>pixZ c i j).map V.int)) l=some (.lst vs):=by rw[Qz1 (Ne.symm nml),Qq1]
    refine⟨_,rfl,.inl ⟨rfl,_,SqL.of hl3⟩,_,rfl,l,_,_,rfl,rfl,hl3,Qv4 (by omega),?_⟩
    have s1:Same Hb (upd Hb m (.lst ((Zk8 c wd i).map V.int))):=Qq5 hbm
    refine⟨_,_,_,_,vs++[.ref m],upd Hb m (.lst ((Zk8 c wd i).map V.int)),rfl,sb.trans s1,by rw[Qz1 (Ne.symm nml)];exact hbl,?_,?_⟩
    ·rw[List.range_succ,List.map_append]
     exact(IsDs.mono s1 hds).snoc (Qu9 Qq1)
    ·rw[Xe3 (Ne.symm nml)]
     rfl
  ·rintro σ H2 ⟨o5,o6,o7,o8,vs,Hb,rfl,sb,hbl,hds,rfl⟩
   rw[Int.toNat_natCast]at hds
   refine⟨_,rfl,k l _ (Qw6 sb hl) hl (Zj5 Qq1 ?_)⟩
   unfold picZ
   rw[List.map_map]
   exact IsDs.mono (Qq5 hbl) hds
end
section
def plN:List Nat→Int→List Nat
 | [],_=>[0]
 | k::rs,n=>(List.range (n-((k::rs).sum:Nat)-(rs.length:Nat)+1).toNat).flatMap fun s=>(plN rs (n-((s+k:Nat):Int)-1)).map fun r=>(2^(s+k)-2^s)|||(r*2^(s+k+1))
end
section
variable {P:Program}{w:World}{K:PySem.W.Frag}{mg:Str→Option Value}{base:Heap}
theorem Zm6 (x:Int):Builtin.bitNot (Builtin.bitNot x)=x:=by unfold Builtin.bitNot;omega
theorem Xg3 (m:Nat):decide (0≤Builtin.bitNot (m:Int))=false:=decide_eq_false (by unfold Builtin.bitNot;omega)
theorem Zj7 (m n:Nat):Builtin.bitOr (m:Int) (n:Int)=((m|||n:Nat):Int):=by
 unfold Builtin.bitOr
 have e:Builtin.bitAnd (Builtin.bitNot (m:Int)) (Builtin.bitNot (n:Int))=Builtin.bitNot (((m|||n:Nat)):Int):=by
  unfold Builtin.bitAnd
  rw[Xg3 m,Xg3 n]
  dsimp only
  rw[Zm6,Zm6,Int.toNat_natCast,Int.toNat_natCast]
 rw[e,Zm6]
theorem Xn4:∀(rs:List Nat) (n:Int) (x:Nat),x∈plN rs n→x<2^(n+1).toNat
 | [],n,x,h=>by
  unfold plN at h
  rw[List.mem_singleton.mp h]
  exact Nat.two_pow_pos _
 | k::rs,n,x,h=>by
  unfold plN at h
  obtain⟨s,hs,hx⟩:=List.mem_flatMap.mp h
  obtain⟨r,hr,rfl⟩:=List.mem_map.mp hx
  have hs':=List.mem_range.mp hs
  have ih:=Xn4 rs _ r hr
  rw[List.sum_cons]at hs'
  have hsk:s+k≤n.toNat:=by omega
  have e:(n-((s+k:Nat):Int)-1+1).toNat=n.toNat-(s+k):=by omega
  rw[e]at ih
  refine Nat.or_lt_two_pow ?_ ?_
  ·have h1:2^(s+k)≤2^(n+1).toNat:=Nat.pow_le_pow_right (by decide) (by omega)
   have h2:0<2^s:=Nat.two_pow_pos _
   have h3:0<2^(s+k):=Nat.two_pow_pos _
   omega
  ·have h1:r*2^(s+k+1)<2^(n.toNat-(s+k))*2^(s+k+1):=Nat.mul_lt_mul_of_pos_right ih (Nat.two_pow_pos _)
   rw[←Nat.pow_add]at h1
   rw[show (n+1).toNat=n.toNat-(s+k)+(s+k+1) by omega]
   exact h1
theorem Zl3:∀(rs:List Nat) (n:Int),n≤12→(plN rs n).length≤13^rs.length
 | [],n,h=>by unfold plN;simp
 | k::rs,n,h=>by
  unfold plN
  rw[List.length_flatMap,List.length_cons,Nat.pow_succ,Nat.mul_comm]
  have hb:∀y∈(List.range (n-((k::rs).sum:Nat)-(rs.length:Nat)+1).toNat).map (fun s=>((plN rs (n-((s+k:Nat):Int)-1)).map fun r=>(2^(s+k)-2^s)|||(r*2^(s+k+1))).length),y≤13^rs.length:=fun y hy=>by
   obtain⟨s,hs,rfl⟩:=List.mem_map.mp hy
   rw[List.length_map]
   exact Zl3 rs _ (by omega)
  have hs:∀(l:List Nat),(∀y∈l,y≤13^rs.length)→l.sum≤l.length*13^rs.length:=by
   intro l
   induction l with
   | nil=>intro _;simp
   | cons y ys ih =>
    intro g
    have:=ih fun z hz=>g z (List.mem_cons_of_mem _ hz)
    have:=g y (List.mem_cons_self ..)
    rw[List.sum_cons,List.length_cons,Nat.add_mul]
    omega
  have:=hs _ hb
  rw[List.length_map,List.length_range]at this
  refine Nat.le_trans this (Nat.mul_le_mul_right _ ?_)
  omega
def plS (k:Nat) (rs:List Nat) (n:Int) (i:Nat):List Nat:=(List.range i).flatMap fun s=>(plN rs (n-((s+k:Nat):Int)-1)).map fun r=>(2^(s+k)-2^s)|||(r*2^(s+k+1))
theorem Xg4 (k:Nat) (rs:List Nat) (n:Int) (i:Nat):plS k rs n (i+1)=plS k rs n i++(plN rs (n-((i+k:Nat):Int)-1)).map fun r=>(2^(i+k)-2^i)|||(r*2^(i+k+1)):=by
 unfold plS
 rw[List.range_succ,List.flatMap_append]
 simp
theorem Xf8 {k:Nat}{rs:List Nat}{n:Int} (hn:n≤12):∀i,(plS k rs n i).length≤i*13^rs.length
 | 0=>by unfold plS;simp
 | i+1=>by
  rw[Xg4,List.length_append,List.length_map,Nat.add_mul,Nat.one_mul]
  have:=Xf8 hn i (k:=k) (rs:=rs)
  have:=Zl3 rs (n-((i+k:Nat):Int)-1) (by omega)
  omega
def Xv1 (m:Nat):Sp:=fun vs H Q _=>∃(t:Addr) (rs:List Nat) (n:Int),vs=[.ref t,.int n]∧H t=some (.tup (Qy0 rs))∧rs.length≤m∧m≤2∧(∀k∈rs,k≤500)∧n≤12 ∧ -20≤n∧∀l H',Same H H'→H l=none→H' l=some (.lst ((plN rs n).map fun x:Nat=>V.int x))→Q (.ref l) H'
theorem Qw1:FnScope ["runs","length","behind","found","start","end","block","rests"] ["runs","length"] (Qz0 Qb1):=⟨rfl,rfl,rfl,by decide +kernel,rfl,by decide +kernel,by decide +kernel⟩
theorem Zz3 {f:Addr}{fd:FuncData} (F:Fun K "packed_layings" "packed_layings" Qb1 f fd) (B:Bt mg) (mkc:∀k sp,FnOk P w K mg base CX0 k f fd ["runs","length"] sp→Callee P w K mg base CX0 "packed_layings" k ["runs","length"] sp):∀m,FnOk P w K mg base CX0 (m+1) f fd ["runs","length"] (Xv1 m)
 | 0=>by
  refine F.ok Qw1 (fun vs H Q E h=>?_) (fun cdv A outer s H vs Q E hr h=>?_)
  ·obtain⟨t,rs,n,rfl,_⟩:=h
   rfl
  ·obtain⟨t,rs,n,rfl,ht,hm,_,_,hn,hn2,k⟩:=h
   refine⟨_,(Qq4 (Qk1 (Qz8 Qb5 (Qx0 (Qx5 K) rfl B.len Qj3 (Qq0 (pv 0) Qq3)) Qq6 (Qx2 _))
    (Qq8 (Qz9 (Qv7 (Qq0 Qq6 Qq3))))
    Qx8)
    (Qq4 Qy3 (Qq4 Qy3 (Qq4 Qy3 (Qq8 Qy3))))),?_⟩
   obtain rfl:rs=[]:=List.length_eq_zero_iff.mp (by omega)
   exact⟨_,rfl,t,_,rfl,.inr (SqT.of ht),rfl,_,rfl,iteT ⟨by show 1≤sizeLine;decide,fun l hl=>k l _ (Qq5 hl) hl Qq1⟩⟩
 | m+1=>by
  have c:=mkc (m+1) (Xv1 m) (Zz3 F B mkc m)
  refine F.ok Qw1 (fun vs H Q E h=>?_) (fun cdv A outer s H vs Q E hr h=>?_)
  ·obtain⟨t,rs,n,rfl,_⟩:=h
   rfl
  ·obtain⟨t,rs,n,rfl,ht,hm,hm2,hk,hn,hn2,k⟩:=h
   refine⟨_,(Qq4 (Qk1 (Qz8 Qb5 (Qx0 (Qx5 K) rfl B.len Qj3 (Qq0 (pv 0) Qq3)) Qq6 (Qx2 _))
   (Qq8 (Qz9 (Qv7 (Qq0 Qq6 Qq3))))
   Qx8)
   (Qq4 (Qz6 (i:=2) Qw1.nd rfl (Or.inl rfl) (Qa9 (Yk8 K) (pv 0) (Zj3 Qq6) Zj2))
   (Qq4 (Qz6 (i:=3) Qw1.nd rfl (Or.inl rfl) (Qv7 Qq3))
   (Qq4 (Qf3 PassesOwn.never rfl (Qy8 rfl B.range (Qq0 (Qz7 Qy1 (Qz7 Zk2 (Qz7 Zk2 (pv 1) (Qx0 (Xd4 K rfl) rfl B.sum Yh6 (Qq0 (pv 0) Qq3))) (Qx0 (Qx5 K) rfl B.len Qj3 (Qq0 (pv 2) Qq3))) Qq6) Qq3)) (Qx3 (i:=4) Qw1.nd rfl (Or.inl rfl))
   (Qq4 (Qz6 (i:=5) Qw1.nd rfl (Or.inr rfl) (Qz7 Qy1 (pv 4) (Qx1 (Qx6 K) (pv 0) Qq6 (fun _ _=>rfl))))
   (Qq4 (Qz6 (i:=6) Qw1.nd rfl (Or.inr rfl) (Qz7 Zk2 (Qz7 Zf0 Qq6 (pv 5)) (Qz7 Zf0 Qq6 (pv 4))))
   (Qq4 (Qz6 (i:=7) Qw1.nd rfl (Or.inl rfl) (Qj6 c hr (Qq0 (pv 2) (Qq0 (Qz7 Zk2 (Qz7 Zk2 (pv 1) (pv 5)) Qq6) Qq3)) (hk:=Nat.le_refl _)))
   (Qq8 (Qh8 (Qs7 PySem.F.plainAttrs_list PySem.F.slot_list_extend PySem.F.type_list_extend Zf4 (pv 3) (Qq0 (Qp5 ["rest"] [6,5] ⟨rfl,rfl,rfl,rfl,rfl⟩ rfl (Qw2 K (pv 7)) (fun _ _ _ _ _=>(Qx3 (i:=0) (show (["rest","block","end"]:List Str).Nodup by decide +kernel) rfl (Or.inl rfl))) (fun _ _ _ _ _=>Qw5 (Qz7 Zh5 (pv 1) (Qz7 Zf0 (pv 0) (Qz7 Qy1 (pv 2) Qq6))))) Qq3))))))))
   (Qq8 (Qz9 (pv 3))))))),?_⟩
   have hbig:8000≤sizeLine:=by decide
   by_cases h0:rs=[]
   ·subst h0
    exact⟨_,rfl,t,_,rfl,.inr (SqT.of ht),rfl,_,rfl,iteT ⟨by show 1≤sizeLine;decide,fun l hl=>k l _ (Qq5 hl) hl Qq1⟩⟩
   obtain⟨k0,rs',rfl⟩:∃k0 rs',rs=k0::rs':=by
    cases rs with
    | nil=>exact absurd rfl h0
    | cons a r=>exact⟨a,r,rfl⟩
   have hlen:(Qy0 (k0::rs')).length=rs'.length+1:=by unfold Qy0;rw[List.length_map,List.length_cons]
   refine⟨_,rfl,t,_,rfl,.inr (SqT.of ht),rfl,_,rfl,?_⟩
   rw[show decide (V.int (((Qy0 (k0::rs')).length:Nat):Int)=V.int 0)=false from decide_eq_false fun z=>by have:=V.int.inj z;omega]
   refine iteF ⟨_,rfl,_,rfl,t,_,rfl,SqT.of ht,?_,fun tb htb=>?_⟩
   ·intro z
    have z1:=z.1
    unfold HT.sIx at z1
    simp[hlen]at z1
   have ecut:cutV (Qy0 (k0::rs')) (some 1) none=Qy0 rs':=by
    unfold cutV HT.sIx
    rw[hlen]
    simp[Qy0]
    exact List.take_of_length_le (by simp)
   rw[ecut]
   have s1:Same H (upd H tb (.tup (Qy0 rs'))):=Qq5 htb
   have htb1:(upd H tb (.tup (Qy0 rs'))) tb=some (.tup (Qy0 rs')):=Qq1
   generalize upd H tb (.tup (Qy0 rs'))=H1 at s1 htb1 ⊢
   refine⟨Nat.zero_le _,fun lf hlf=>?_⟩
   have nlf:H lf=none:=s1.free hlf
   have ntl:tb≠lf:=Qk4 htb1 hlf
   have s2:Same H1 (upd H1 lf (.lst [])):=Qq5 hlf
   have hlf2:(upd H1 lf (.lst [])) lf=some (.lst []):=Qq1
   generalize upd H1 lf (.lst [])=H2 at s2 hlf2 ⊢
   have s12:=s1.trans s2
   have hsum:(Qy0 (k0::rs'))=((k0::rs').map fun k:Nat=>(k:Int)).map V.int:=by unfold Qy0;rw[List.map_map];rfl
   have hsv:((k0::rs').map fun k:Nat=>(k:Int)).sum=(((k0::rs').sum:Nat):Int):=by
    have:∀l:List Nat,(l.map fun k:Nat=>(k:Int)).sum=((l.sum:Nat):Int):=by
     intro l
     induction l with
     | nil=>rfl
     | cons a r ih=>rw[List.map_cons,List.sum_cons,List.sum_cons,ih];omega
    exact this _
   have hlb:(Qy0 rs').length=rs'.length:=by unfold Qy0;rw[List.length_map]
   refine⟨_,rfl,_,rfl,t,_,rfl,(by rw[←hsum];exact SqT.of (s12 _ _ ht)),_,_,rfl,rfl,_,rfl,tb,_,rfl,.inr (SqT.of (s2 _ _ htb1)),_,_,rfl,rfl,_,_,rfl,rfl,n-(((k0::rs').sum:Nat):Int)-(rs'.length:Nat)+1,?_,?_,?_,?_⟩
   ·rw[hsv,hlb]
   ·have hs2:(k0::rs').sum≤1500:=by
     have:∀l:List Nat,(∀k∈l,k≤500)→l.sum≤500*l.length:=by
      intro l
      induction l with
      | nil=>intro _;simp
      | cons a r ih =>
       intro g
       have:=ih fun z hz=>g z (List.mem_cons_of_mem _ hz)
       have:=g a (List.mem_cons_self ..)
       rw[List.sum_cons,List.length_cons]
       omega
     have:=this _ hk
     omega
    rw[List.length_cons]at hm
    omega
   ·omega
   have hk0:=hk k0 (List.mem_cons_self ..)
   refine Qn0 (lo:=0) (n:=(n-(((k0::rs').sum:Nat):Int)-(rs'.length:Nat)+1).toNat) (fun i σ H3=>∃(o4 o5 o6 o7:Option V),σ=[some (.ref t),some (.int n),some (.ref tb),some (.ref lf),o4,o5,o6,o7]∧Same H H3∧H3 tb=some (.tup (Qy0 rs'))∧H3 lf=some (.lst ((plS k0 rs' n i).map fun x:Nat=>V.int x))) ⟨none,none,none,none,rfl,s12,s2 _ _ htb1,hlf2⟩ ?_ ?_
   ·intro Pw mk
    rintro i σ H3 hi ⟨o4,o5,o6,o7,rfl,s3,htb3,hlf3⟩
    rw[List.sum_cons]at hi
    have e0:(0:Int)+(i:Nat)=(i:Nat):=Int.zero_add _
    rw[e0]
    have ei:((i:Nat):Int)+((k0:Nat):Int)=((i+k0:Nat):Int):=by omega
    refine⟨_,rfl,_,rfl,t,_,_,.int (k0:Nat),rfl,rfl,SqT.of (s3 _ _ ht),Qx7 (j:=0) rfl,_,_,rfl,rfl,?_⟩
    show Qu5 5 (V.int (((i:Nat):Int)+((k0:Nat):Int))) _ _ _
    rw[ei]
    refine⟨_,rfl,_,_,rfl,rfl,⟨by omega,by omega,by decide⟩,_,rfl,_,_,rfl,rfl,⟨by omega,by omega,by decide⟩,_,_,rfl,rfl,?_⟩
    have eb:(1:Int)*2^(((i+k0:Nat):Int)).toNat-1*2^(((i:Nat):Int)).toNat=((2^(i+k0)-2^i:Nat):Int):=by
     have:2^i≤2^(i+k0):=Nat.pow_le_pow_right (by decide) (by omega)
     rw[Int.toNat_natCast,Int.toNat_natCast,Int.one_mul,Int.one_mul,Int.natCast_sub this]
     simp
    show Qu5 6 (V.int ((1:Int)*2^(((i+k0:Nat):Int)).toNat-1*2^(((i:Nat):Int)).toNat)) _ _ _
    rw[eb]
    refine⟨_,rfl,_,rfl,_,rfl,_,_,rfl,rfl,_,_,rfl,rfl,tb,rs',n-((i+k0:Nat):Int)-1,rfl,htb3,by rw[List.length_cons]at hm;omega,by omega,fun z hz=>hk z (List.mem_cons_of_mem _ hz),by omega,by omega,fun lr H4 s4 nlr hlr=>?_⟩
    have hlf4:=s4 _ _ hlf3
    have hlen2:=Zl3 rs' (n-((i+k0:Nat):Int)-1) (by omega)
    have hlen3:=Xf8 (k:=k0) (rs:=rs') hn i
    have hp13:13^rs'.length≤13^1:=Nat.pow_le_pow_right (by decide) (by rw[List.length_cons]at hm;omega)
    have hi13:i≤13:=by omega
    have hmul:i*13^rs'.length≤13*13:=Nat.mul_le_mul hi13 (by omega)
    have hml:((plN rs' (n-((i+k0:Nat):Int)-1)).map fun x:Nat=>V.int x).length=(plN rs' (n-((i+k0:Nat):Int)-1)).length:=List.length_map _
    refine⟨_,rfl,.inl ⟨rfl,_,SqL.of hlf4⟩,_,rfl,lr,rfl,⟨_,SqL.of hlr⟩,Qw0 (K:=K) (a:=lr) (xs:=(plN rs' (n-((i+k0:Nat):Int)-1)).map fun x:Nat=>V.int x) (fun j ys H5=>H5=H4∧ys=(((plN rs' (n-((i+k0:Nat):Int)-1)).take j).map fun r=>(2^(i+k0)-2^i)|||(r*2^(i+k0+1))).map fun x:Nat=>V.int x) ⟨rfl,rfl⟩ ?_ ?_ ?_ ?_ ?_⟩
    ·rw[hml];omega
    ·rintro j ys H5 ⟨_,rfl⟩
     rw[List.length_map,List.length_map,List.length_take]
     omega
    ·rintro j ys H5 _ ⟨rfl,_⟩
     exact SqL.of hlr
    ·rintro j y ys H5 hj ⟨rfl,rfl⟩
     rw[List.getElem?_map]at hj
     obtain⟨r,hr',rfl⟩:∃r,(plN rs' (n-((i+k0:Nat):Int)-1))[j]?=some r∧y=.int (r:Nat):=by
      cases q:(plN rs' (n-((i+k0:Nat):Int)-1))[j]? with
      | none=>rw[q]at hj;cases hj
      | some r=>rw[q]at hj;exact⟨r,rfl,(Option.some.inj hj).symm⟩
     have hrl:=Xn4 rs' _ r (List.mem_of_getElem? hr')
     have hr2:r<2^14:=Nat.lt_of_lt_of_le hrl (Nat.pow_le_pow_right (by decide) (by omega))
     refine⟨rfl,?_⟩
     refine⟨_,rfl,_,rfl,_,rfl,_,_,rfl,rfl,_,_,rfl,rfl,⟨by omega,by omega,by rw[Int.natAbs_natCast];exact Nat.lt_trans hr2 (by decide)⟩,_,_,rfl,rfl,rfl,?_⟩
     have ev:Builtin.bitOr ((2^(i+k0)-2^i:Nat):Int) (((r:Nat):Int)*2^(((i+k0:Nat):Int)+1).toNat)=(((2^(i+k0)-2^i)|||(r*2^(i+k0+1)):Nat):Int):=by
      rw[show (((i+k0:Nat):Int)+1).toNat=i+k0+1 by omega,show ((r:Nat):Int)*2^(i+k0+1)=((r*2^(i+k0+1):Nat):Int) by rw[Int.natCast_mul];simp,Zj7]
     show _=_
     rw[List.take_add_one,hr',List.map_append,List.map_append]
     exact congrArg (fun q=>_++[V.int q]) ev
    ·rintro ys H5 ⟨rfl,rfl⟩ l2 hl2
     rw[hml,List.take_length]
     refine⟨lf,l2,_,_,rfl,rfl,Qq5 hl2 _ _ hlf4,Qq1,?_,?_⟩
     ·rw[List.length_map,List.length_map,List.length_map];omega
     ·have n2:lf≠l2:=Qk4 hlf4 hl2
      have s5:Same H5 (upd H5 l2 (.lst (((plN rs' (n-((i+k0:Nat):Int)-1)).map fun r=>(2^(i+k0)-2^i)|||(r*2^(i+k0+1))).map fun x:Nat=>V.int x))):=Qq5 hl2
      refine mk _ _ _ ⟨_,_,_,_,rfl,Qw6 (s3.trans (s4.trans s5)) nlf,by rw[Qz1 ntl];exact s5 _ _ (s4 _ _ htb3),?_⟩
      rw[Qq1,Xg4,List.map_append]
   ·rintro σ H3 ⟨o4,o5,o6,o7,rfl,s3,htb3,hlf3⟩
    exact⟨_,rfl,k lf H3 s3 nlf hlf3⟩
end
section
variable {P:Program}{w:World}{K:PySem.W.Frag}{mg:Str→Option Value}{base:Heap}
theorem Xn5 (m n:Nat):Builtin.bitAnd (m:Int) (n:Int)=((m&&&n:Nat):Int):=rfl
theorem Xe7 (n p:Nat):Builtin.bitAnd ((n:Int)/2^p) 1=if n.testBit p=true then 1 else 0:=by
 have e:(n:Int)/2^p=((n/2^p:Nat):Int):=by
  rw[Int.natCast_ediv]
  congr 1
 rw[e,show (1:Int)=((1:Nat):Int) from rfl,Xn5,Nat.and_one_is_mod,Nat.testBit_eq_decide_div_mod_eq]
 by_cases h:n/2^p%2=1
 ·rw[h];simp
 ·rw[show n/2^p%2=0 by omega];simp
def Qa2 (x n:Nat):List Int:=(List.range n).map fun p=>if x.testBit p=true then 1 else 0
def Zy4:Sp:=fun vs H Q _=>∃(x n:Nat),vs=[.int (x:Nat),.int (n:Nat)]∧n≤100∧∀l,H l=none→Q (.ref l) (upd H l (.lst ((Qa2 x n).map V.int)))
theorem Xb5:FnScope ["cells","length"] ["cells","length"] (Qz0 Qn1):=⟨rfl,rfl,rfl,by decide +kernel,rfl,by decide +kernel,by decide +kernel⟩
theorem Xb6 {f:Addr}{fd:FuncData} (F:Fun K "unpacked" "unpacked" Qn1 f fd) (B:Bt mg):FnOk P w K mg base CX0 1 f fd ["cells","length"] Zy4:=by
 refine F.ok Xb5 (fun vs H Q E h=>?_) (fun cdv A outer s H vs Q E hr h=>?_)
 ·obtain⟨x,n,rfl,_⟩:=h
  rfl
 ·obtain⟨x,n,rfl,hn,k⟩:=h
  refine⟨_,(Qq8 (Qz9 (Qp5 ["place"] [0] ⟨rfl,rfl,rfl,rfl,rfl⟩ rfl (Qy8 rfl B.range (Qq0 (pv 1) Qq3)) (fun _ _ _ _ _=>(Qx3 (i:=0) (show (["place","cells"]:List Str).Nodup by decide +kernel) rfl (Or.inl rfl))) (fun _ _ _ _ _=>Qw5 (Qz7 Qe8 (Qz7 Zn9 (pv 1) (pv 0)) Qq6))))),?_⟩
  refine⟨_,rfl,(n:Nat),rfl,by omega,by omega,Zz7 (lo:=0) (n:=((n:Nat):Int).toNat) (fun i ys H'=>H'=H∧ys=(Qa2 x i).map V.int) ⟨rfl,rfl⟩ ?_ ?_ ?_ ?_⟩
  ·exact Nat.le_of_lt (Qv4 (by omega))
  ·rintro i ys H' ⟨_,rfl⟩
   unfold Qa2
   simp
  ·rintro i ys H' hi ⟨rfl,rfl⟩
   have e0:(0:Int)+(i:Nat)=(i:Nat):=Int.zero_add _
   rw[e0]
   refine⟨rfl,?_⟩
   refine⟨_,rfl,_,rfl,_,_,rfl,rfl,by omega,_,_,rfl,rfl,rfl,?_⟩
   have ev:Builtin.bitAnd (((x:Nat):Int)/2^(((i:Nat):Int)).toNat) 1=if x.testBit i=true then 1 else 0:=by rw[Int.toNat_natCast];exact Xe7 x i
   have eb:Qa2 x (i+1)=Qa2 x i++[if x.testBit i=true then 1 else 0]:=by unfold Qa2;rw[List.range_succ,List.map_append];rfl
   rw[eb,List.map_append]
   exact congrArg (fun q=>(Qa2 x i).map V.int++[V.int q]) ev
  ·rintro ys H' ⟨rfl,rfl⟩ l hl
   rw[Int.toNat_natCast]
   exact k l hl
end
section
variable {P:Program}{w:World}{K:PySem.W.Frag}{mg:Str→Option Value}{base:Heap}{C:Addr}
def Qa3 (x:Option Int) (z:Int):Bool:=decide (x=none)||decide (x=some z)
theorem Zb9:∀(s:Qj5) (c:List Int),Qh7 s c=(List.zipWith Qa3 s c).all id
 | [],_=>by simp[Qh7]
 | _::_,[]=>by simp[Qh7]
 | x::s,z::c=>by
  rw[List.zipWith_cons_cons,List.all_cons,←Zb9 s c]
  rfl
theorem Ym4 {x:Option Int}{z:Int}:decide (vO x=V.int z)=decide (x=some z):=by
 cases x with
 | none=>rfl
 | some i =>
  by_cases h:i=z
  ·subst h;simp[vO]
  ·show decide (V.int i=V.int z)=_
   rw[decide_eq_false (fun q=>h (V.int.inj q)),decide_eq_false (fun q=>h (Option.some.inj q))]
theorem Yb5 {x:Option Int}:decide (vO x=V.non)=decide (x=none):=by cases x<;>rfl
theorem Yw3 (rs:List Nat):Qy0 rs=(Qw3 rs).map V.int:=by
 unfold Qy0 Qw3
 rw[List.map_map]
 rfl
theorem Zm7:∀(a b:List Int),eqDs (a.map Dt.int) (b.map Dt.int)=decide (a=b)
 | [],[]=>by simp[eqDs]
 | [],_::_=>by simp[eqDs]
 | _::_,[]=>by simp[eqDs]
 | x::a,y::b=>by
  rw[List.map_cons,List.map_cons]
  unfold eqDs
  rw[Zm7 a b,Zr4 rfl rfl]
  show ((x==y)&&decide (a=b))=_
  by_cases h:x=y
  ·subst h
   simp
  ·have:(x==y)=false:=beq_eq_false_iff_ne.mpr h
   rw[this,Bool.false_and]
   exact(decide_eq_false (fun z=>h (List.cons.inj z).1)).symm
theorem Xf9 (a b:List Int):eqD (dTup a) (dTup b)=decide (a=b):=by unfold dTup;rw[Zg0,Zm7]
theorem Xm0 (a b:List Int):eqD (dRow a) (dRow b)=decide (a=b):=by unfold dRow;rw[Zf8,Zm7]
end
section
theorem Zq2 {s:Qj5}{c:List Int} (h:c.length=s.length):Qh7 s c=true↔∀i,i<s.length→s.getD i none=none∨s.getD i none=some (c.getD i 0):=by
 rw[Zb9,List.all_eq_true]
 constructor
 ·intro q i hi
  have h2:i<(List.zipWith Qa3 s c).length:=by rw[List.length_zipWith];omega
  have h3:=q _ (List.getElem_mem h2)
  rw[List.getElem_zipWith]at h3
  have h4:Qa3 (s.getD i none) (c.getD i 0)=true:=by
   rw[Qz4 (List.getElem?_eq_getElem hi),Qz4 (List.getElem?_eq_getElem (by omega:i<c.length))]
   exact h3
  unfold Qa3 at h4
  rw[Bool.or_eq_true,decide_eq_true_eq,decide_eq_true_eq]at h4
  exact h4
 ·intro q x hx
  obtain⟨i,hi,rfl⟩:=List.mem_iff_getElem.mp hx
  rw[List.length_zipWith]at hi
  rw[List.getElem_zipWith]
  have:=q i (by omega)
  rw[Qz4 (List.getElem?_eq_getElem (by omega:i<s.length)),Qz4 (List.getElem?_eq_getElem (by omega:i<c.length))]at this
  show Qa3 s[i] c[i]=true
  unfold Qa3
  rw[Bool.or_eq_true,decide_eq_true_eq,decide_eq_true_eq]
  exact this
theorem Qc6 {rs:List Nat}{s:Qj5}{c:List Int} (hr:∀k∈rs,1≤k) (hs:Qd6 s):c∈layL rs s↔Qd5 c∧c.length=s.length∧Qk2 c=Qw3 rs∧∀i,i<s.length→s.getD i none=none∨s.getD i none=some (c.getD i 0):=by
 constructor
 ·intro h
  have hb:=Xy9 _ rs s c rfl h
  obtain⟨h1,h2,h3⟩:=(Zl2 _ rs s c rfl hr hs hb).mp h
  exact⟨hb,h1,h2,(Zq2 h1).mp h3⟩
 ·rintro⟨hb,h1,h2,h3⟩
  exact(Zl2 _ rs s c rfl hr hs hb).mpr ⟨h1,h2,(Zq2 h1).mpr h3⟩
structure BOk (h w:Nat) (b:Brd):Prop where
 rows:b.1.length=h
 cols:b.2.length=w
 r1:∀xs∈b.1,(∀x∈xs,1≤x∧x≤500)∧xs.length≤100
 r2:∀xs∈b.2,(∀x∈xs,1≤x∧x≤500)∧xs.length≤100
theorem Zm8 {xs:List Int} (h:∀x∈xs,1≤x∧x≤500):xs.map V.int=Qy0 (natR xs):=by
 unfold Qy0 natR
 rw[List.map_map]
 apply List.map_congr_left
 intro x hx
 have:=h x hx
 show V.int x=V.int ((x.toNat:Nat):Int)
 rw[Int.toNat_of_nonneg (by omega)]
theorem Xj0 {xs:List Int} (h:∀x∈xs,1≤x∧x≤500):xs=Qw3 (natR xs):=by
 unfold Qw3 natR
 rw[List.map_map]
 conv=>lhs;rw[←List.map_id xs]
 apply List.map_congr_left
 intro x hx
 have:=h x hx
 show x=((x.toNat:Nat):Int)
 rw[Int.toNat_of_nonneg (by omega)]
theorem Zg6 {xs:List Int} (h:∀x∈xs,1≤x∧x≤500):∀k∈natR xs,1≤k∧k≤500:=fun k hk=>by
 obtain⟨x,hx,rfl⟩:=List.mem_map.mp hk
 have:=h x hx
 omega
theorem BOk.at' {h w:Nat}{b:Brd} (o:BOk h w b) {l:Nat×Nat} (hl:LOk h w l):∃xs,(if l.1=0 then b.1 else b.2)[l.2]?=some xs∧Qw8 b l.1 l.2=natR xs∧(∀x∈xs,1≤x∧x≤500)∧xs.length≤100:=by
 have e1:=o.rows
 have e2:=o.cols
 unfold Qw8
 rcases hl with ⟨h1,h2⟩|⟨h1,h2⟩
 ·rw[if_pos h1]
  have h3:l.2<b.1.length:=by omega
  refine⟨_,List.getElem?_eq_getElem h3,by rw[Qz4 (List.getElem?_eq_getElem h3)],o.r1 _ (List.getElem_mem h3)⟩
 ·rw[if_neg (by omega)]
  have h3:l.2<b.2.length:=by omega
  refine⟨_,List.getElem?_eq_getElem h3,by rw[Qz4 (List.getElem?_eq_getElem h3)],o.r2 _ (List.getElem_mem h3)⟩
theorem BOk.pos {h w:Nat}{b:Brd} (o:BOk h w b) {l:Nat×Nat} (hl:LOk h w l):∀k∈Qw8 b l.1 l.2,1≤k:=by
 obtain⟨xs,_,e,hx,_⟩:=o.at' hl
 rw[e]
 exact fun k hk=>(Zg6 hx k hk).1
theorem Xg5 {h w:Nat}{v v':View} (o:VOk h w v) (o':VOk h w v') (e:∀i j,i<h→j<w→Qz5 v i j=Qz5 v' i j):v=v':=by
 have hl:=o.len
 have hl':=o'.len
 apply List.ext_getElem (by omega)
 intro i h1 h2
 have r1:=o.row (i:=i) (by omega)
 have r2:=o'.row (i:=i) (by omega)
 rw[Qz4 (List.getElem?_eq_getElem h1)]at r1
 rw[Qz4 (List.getElem?_eq_getElem h2)]at r2
 apply List.ext_getElem (by rw[r1.1,r2.1])
 intro j g1 g2
 have:=e i j (by omega) (by omega)
 unfold Qz5 at this
 rw[Qz4 (List.getElem?_eq_getElem h1),Qz4 (List.getElem?_eq_getElem h2),Qz4 (List.getElem?_eq_getElem g1),Qz4 (List.getElem?_eq_getElem g2)]at this
 exact this
theorem Xe8 {h w:Nat}{b:Brd}{u v:View} (ob:BOk h w b) (o:VOk h w u) (o':VOk h w v) (le:LeV h w u v) {l:Nat×Nat} (hl:LOk h w l) {c:List Int} (hc:c∈Qj8 b l v):c∈Qj8 b l u:=by
 have hr:=ob.pos hl
 unfold Qj8 at hc ⊢
 rw[Qc6 hr (Qm0 o' hl)]at hc
 rw[Qc6 hr (Qm0 o hl)]
 obtain⟨h1,h2,h3,h4⟩:=hc
 rw[Qv9 o' hl]at h2 h4
 rw[Qv9 o hl]
 refine⟨h1,h2,h3,fun p hp=>?_⟩
 rw[Qw9 o hl hp]
 cases q:Qz5 u (posL l p).1 (posL l p).2 with
 | none=>exact .inl rfl
 | some z =>
  obtain⟨q1,q2⟩:=Qd0 hl hp
  have e:=le _ _ q1 q2 z q
  have:=h4 p hp
  rw[Qw9 o' hl hp,e]at this
  rcases this with t|t
  ·cases t
  ·exact .inr t
end
section
inductive Tree where
 | pic
 | shut (side n:Nat)
 | tri (r c:Nat) (t0 t1:Tree)
def Done (h w:Nat) (v:View):Prop:=∀i j,i<h→j<w→Qz5 v i j≠none
def Fits (h w:Nat) (b:Brd) (v:View):Prop:=∀l,LOk h w l→Qj8 b l v≠[]
inductive Leaf (h w:Nat) (b:Brd):Tree→View→List View→Prop
 | pic {v:View} (d:Done h w v) (f:Fits h w b v):Leaf h w b .pic v [v]
 | shut {v:View}{l:Nat×Nat} (hl:LOk h w l) (no:Qj8 b l v=[]):Leaf h w b (.shut l.1 l.2) v []
 | tri {v:View}{r c:Nat}{t0 t1:Tree}{p0 p1:List View} (hr:r<h) (hc:c<w) (op:Qz5 v r c=none)
   (h0:Leaf h w b t0 (setC v r c (some 0)) p0) (h1:Leaf h w b t1 (setC v r c (some 1)) p1):Leaf h w b (.tri r c t0 t1) v (p0++p1)
theorem Xm1 {h w:Nat}{v u:View} (o:VOk h w v) {r c:Nat}{x:Option Int} (hr:r<h) (hc:c<w) (le:LeV h w v u) (e:Qz5 u r c=x):LeV h w (setC v r c x) u:=fun i j hi hj z q=>by
 rw[Qk8 o hr hc]at q
 split at q
 ·rename_i g
  rw[g.1,g.2,e,q]
 ·exact le i j hi hj z q
theorem Qr8 {h w:Nat}{v:View} (o:VOk h w v) {r c:Nat}{x:Option Int} (hr:r<h) (hc:c<w) (op:Qz5 v r c=none):LeV h w v (setC v r c x):=fun i j hi hj z q=>by
 rw[Qk8 o hr hc]
 split
 ·rename_i g
  rw[g.1,g.2,op]at q
  cases q
 ·exact q
theorem Zq3 {h w:Nat}{a b c:View} (x:LeV h w a b) (y:LeV h w b c):LeV h w a c:=fun i j hi hj z q=>y i j hi hj z (x i j hi hj z q)
theorem Zs1 {h w:Nat}{v:View} (o:VOk h w v) {i j:Nat} (hi:i<h) (hj:j<w):Qz5 v i j=none∨Qz5 v i j=some 0∨Qz5 v i j=some 1:=by
 have r:=o.row hi
 unfold Qz5
 have hj':j<(v.getD i []).length:=by rw[r.1];exact hj
 rw[Qz4 (List.getElem?_eq_getElem hj')]
 exact r.2 _ (List.getElem_mem hj')
theorem Leaf.whole {h w:Nat}{b:Brd} (ob:BOk h w b) {t:Tree}{v:View}{ps:List View} (L:Leaf h w b t v ps):VOk h w v→∀u,VOk h w u→Done h w u→Fits h w b u→LeV h w v u→u∈ps:=by
 induction L with
 | @pic v d f =>
  intro o u ou du fu le
  have:v=u:=Xg5 o ou fun i j hi hj=>by
   cases q:Qz5 v i j with
   | none=>exact absurd q (d i j hi hj)
   | some z=>rw[le i j hi hj z q]
  rw[this]
  exact List.mem_singleton.mpr rfl
 | shut hl no =>
  intro o u ou du fu le
  obtain⟨c,hc⟩:=List.exists_mem_of_ne_nil _ (fu _ hl)
  have:=Xe8 ob o ou le hl hc
  rw[no]at this
  cases this
 | tri hr hc op h0 h1 ih0 ih1 =>
  intro o u ou du fu le
  rcases Zs1 ou hr hc with q|q|q
  ·exact absurd q (du _ _ hr hc)
  ·exact List.mem_append_left _ (ih0 (o.setC hr (.inr (.inl rfl))) u ou du fu (Xm1 o hr hc le q))
  ·exact List.mem_append_right _ (ih1 (o.setC hr (.inr (.inr rfl))) u ou du fu (Xm1 o hr hc le q))
def Qy2 (v:View) (l:Nat×Nat) (p:Nat):Prop:=Qz5 v (posL l p).1 (posL l p).2=none
structure Alike (h w:Nat) (b:Brd) (v u:View):Prop where
 op:∀i j,i<h→j<w→(Qz5 v i j=none↔Qz5 u i j=none)
 lay:∀l,LOk h w l→∀c∈Qj8 b l v,∃d∈Qj8 b l u,∀p,p<lenL h w l→Qy2 v l p→c.getD p 0=d.getD p 0
 lay':∀l,LOk h w l→∀d∈Qj8 b l u,∃c∈Qj8 b l v,∀p,p<lenL h w l→Qy2 v l p→c.getD p 0=d.getD p 0
theorem Qi5 {h w:Nat}{b:Brd} (ob:BOk h w b) {v:View} (o:VOk h w v) {r c:Nat}{z:Int} (hz:z=0∨z=1) (hr:r<h) (hc:c<w) (op:Qz5 v r c=none) {l:Nat×Nat} (hl:LOk h w l) {x:List Int} :
  x∈Qj8 b l (setC v r c (some z))↔x∈Qj8 b l v∧∀p,p<lenL h w l→posL l p=(r,c)→x.getD p 0=z:=by
 have hb:(some z:Option Int)=none∨(some z:Option Int)=some 0∨(some z:Option Int)=some 1:=by rcases hz with rfl|rfl<;>simp
 have o':=o.setC (j:=c) hr hb
 have hpos:=ob.pos hl
 unfold Qj8
 rw[Qc6 hpos (Qm0 o' hl),Qc6 hpos (Qm0 o hl),Qv9 o' hl,Qv9 o hl]
 constructor
 ·rintro⟨h1,h2,h3,h4⟩
  refine⟨⟨h1,h2,h3,fun p hp=>?_⟩,fun p hp e=>?_⟩
  ·have:=h4 p hp
   rw[Qw9 o' hl hp,Qk8 o hr hc]at this
   rw[Qw9 o hl hp]
   split at this
   ·rename_i g
    rw[g.1,g.2,op]
    exact .inl rfl
   ·exact this
  ·have:=h4 p hp
   rw[Qw9 o' hl hp,Qk8 o hr hc,if_pos ⟨congrArg Prod.fst e,congrArg Prod.snd e⟩]at this
   rcases this with t|t
   ·cases t
   ·exact(Option.some.inj t).symm
 ·rintro⟨⟨h1,h2,h3,h4⟩,h5⟩
  refine⟨h1,h2,h3,fun p hp=>?_⟩
  rw[Qw9 o' hl hp,Qk8 o hr hc]
  split
  ·rename_i g
   right
   rw[h5 p hp (Prod.ext g.1 g.2)]
  ·have:=h4 p hp
   rw[Qw9 o hl hp]at this
   exact this
theorem Alike.tell {h w:Nat}{b:Brd} (ob:BOk h w b) {v u:View} (ov:VOk h w v) (ou:VOk h w u) (a:Alike h w b v u) {r c:Nat}{z:Int} (hz:z=0∨z=1) (hr:r<h) (hc:c<w) (op:Qz5 v r c=none):Alike h w b (setC v r c (some z)) (setC u r c (some z)):=by
 have op':Qz5 u r c=none:=(a.op r c hr hc).mp op
 refine⟨fun i j hi hj=>?_,fun l hl x hx=>?_,fun l hl y hy=>?_⟩
 ·rw[Qk8 ov hr hc,Qk8 ou hr hc]
  split
  ·exact Iff.rfl
  ·exact a.op i j hi hj
 ·obtain⟨h1,h2⟩:=(Qi5 ob ov hz hr hc op hl).mp hx
  obtain⟨d,hd,e⟩:=a.lay l hl x h1
  refine⟨d,(Qi5 ob ou hz hr hc op' hl).mpr ⟨hd,fun p hp q=>?_⟩,fun p hp ho=>e p hp ?_⟩
  ·rw[←e p hp (by unfold Qy2;rw[q];exact op)]
   exact h2 p hp q
  ·unfold Qy2 at ho ⊢
   rw[Qk8 ov hr hc]at ho
   split at ho
   ·cases ho
   ·exact ho
 ·obtain⟨h1,h2⟩:=(Qi5 ob ou hz hr hc op' hl).mp hy
  obtain⟨x,hx,e⟩:=a.lay' l hl y h1
  refine⟨x,(Qi5 ob ov hz hr hc op hl).mpr ⟨hx,fun p hp q=>?_⟩,fun p hp ho=>e p hp ?_⟩
  ·rw[e p hp (by unfold Qy2;rw[q];exact op)]
   exact h2 p hp q
  ·unfold Qy2 at ho ⊢
   rw[Qk8 ov hr hc]at ho
   split at ho
   ·cases ho
   ·exact ho
theorem Leaf.alike {h w:Nat}{b:Brd} (ob:BOk h w b) {t:Tree}{v:View}{ps:List View} (L:Leaf h w b t v ps):ps=[]→∀u,VOk h w v→VOk h w u→Alike h w b v u→Leaf h w b t u []:=by
 induction L with
 | pic d f=>intro e;cases e
 | @shut v l hl no =>
  intro _ u ov ou a
  refine .shut hl ?_
  cases q:Qj8 b l u with
  | nil=>rfl
  | cons y ys =>
   obtain⟨x,hx,_⟩:=a.lay' l hl y (by rw[q];exact List.mem_cons_self ..)
   rw[no]at hx
   cases hx
 | @tri v r c t0 t1 p0 p1 hr hc op h0 h1 ih0 ih1 =>
  intro e u ov ou a
  obtain⟨e0,e1⟩:=List.append_eq_nil_iff.mp e
  have op':Qz5 u r c=none:=(a.op r c hr hc).mp op
  exact .tri (p0:=[]) (p1:=[]) hr hc op' (ih0 e0 _ (ov.setC hr (.inr (.inl rfl))) (ou.setC hr (.inr (.inl rfl))) (a.tell ob ov ou (.inl rfl) hr hc op)) (ih1 e1 _ (ov.setC hr (.inr (.inr rfl))) (ou.setC hr (.inr (.inr rfl))) (a.tell ob ov ou (.inr rfl) hr hc op))
end
section
structure Forced (h w:Nat) (b:Brd) (v:View) (l:Nat×Nat) (p:Nat) (z:Int):Prop where
 hl:LOk h w l
 hp:p<lenL h w l
 op:Qy2 v l p
 bit:z=0∨z=1
 all:∀x∈Qj8 b l v,x.getD p 0=z
def Xl2 (r c:Nat) (z:Int) (l:Nat×Nat) (t:Tree):Tree:=if z=0 then .tri r c t (.shut l.1 l.2) else .tri r c (.shut l.1 l.2) t
theorem Leaf.force {h w:Nat}{b:Brd} (ob:BOk h w b) {v:View} (ov:VOk h w v) {l:Nat×Nat}{p:Nat}{z:Int} (F:Forced h w b v l p z) {t:Tree}{ps:List View} (L:Leaf h w b t (setC v (posL l p).1 (posL l p).2 (some z)) ps) :
  Leaf h w b (Xl2 (posL l p).1 (posL l p).2 z l t) v ps:=by
 obtain⟨hr,hc⟩:=Qd0 F.hl F.hp
 have other:∀y:Int,(y=0∨y=1)→y≠z→Qj8 b l (setC v (posL l p).1 (posL l p).2 (some y))=[]:=fun y hy hne=>by
  cases q:Qj8 b l (setC v (posL l p).1 (posL l p).2 (some y)) with
  | nil=>rfl
  | cons x xs =>
   have hx:x∈Qj8 b l (setC v (posL l p).1 (posL l p).2 (some y)):=by rw[q];exact List.mem_cons_self ..
   obtain⟨h1,h2⟩:=(Qi5 ob ov hy hr hc F.op F.hl).mp hx
   exact absurd ((h2 p F.hp rfl).symm.trans (F.all x h1)) hne
 unfold Xl2
 rcases F.bit with rfl|rfl
 ·rw[if_pos rfl]
  have:=Leaf.tri (b:=b) hr hc F.op L (Leaf.shut F.hl (other 1 (.inr rfl) (by decide)))
  rw[List.append_nil]at this
  exact this
 ·rw[if_neg (by decide)]
  exact Leaf.tri (b:=b) hr hc F.op (Leaf.shut F.hl (other 0 (.inl rfl) (by decide))) L
abbrev Fc:=Nat×Nat×Int×(Nat×Nat)
def Zj8 (fs:List Fc) (t:Tree):Tree:=fs.foldr (fun f t=>Xl2 f.1 f.2.1 f.2.2.1 f.2.2.2 t) t
inductive Tells (h w:Nat) (b:Brd):View→List Fc→View→Prop
 | nil (v:View):Tells h w b v [] v
 | snoc {v u:View}{fs:List Fc}{l:Nat×Nat}{p:Nat}{z:Int} (T:Tells h w b v fs u) (F:Forced h w b u l p z) :
   Tells h w b v (fs++[((posL l p).1,(posL l p).2,z,l)]) (setC u (posL l p).1 (posL l p).2 (some z))
theorem Forced.sm {h w:Nat}{b:Brd}{v:View}{l:Nat×Nat}{p:Nat}{z:Int} (F:Forced h w b v l p z):(some z:Option Int)=none∨(some z:Option Int)=some 0∨(some z:Option Int)=some 1:=by
 rcases F.bit with rfl|rfl<;>simp
theorem Tells.ok {h w:Nat}{b:Brd}{v u:View}{fs:List Fc} (T:Tells h w b v fs u) (ov:VOk h w v):VOk h w u:=by
 induction T with
 | nil=>exact ov
 | snoc T F ih=>exact ih.setC (Qd0 F.hl F.hp).1 F.sm
theorem Tells.le {h w:Nat}{b:Brd}{v u:View}{fs:List Fc} (T:Tells h w b v fs u) (ov:VOk h w v):LeV h w v u:=by
 induction T with
 | nil=>exact fun i j _ _ z q=>q
 | snoc T F ih=>exact Zq3 ih (Qr8 (T.ok ov) (Qd0 F.hl F.hp).1 (Qd0 F.hl F.hp).2 F.op)
theorem Leaf.forceAll {h w:Nat}{b:Brd} (ob:BOk h w b) {v u:View}{fs:List Fc} (T:Tells h w b v fs u) (ov:VOk h w v):∀{t:Tree}{ps:List View},Leaf h w b t u ps→Leaf h w b (Zj8 fs t) v ps:=by
 induction T with
 | nil=>exact fun L=>L
 | snoc T F ih =>
  intro t ps L
  have:=ih (L.force ob (T.ok ov) F)
  unfold Zj8 at this ⊢
  rw[List.foldr_append]
  exact this
theorem Forced.same {h w:Nat}{b:Brd} (ob:BOk h w b) {v:View} (ov:VOk h w v) {l:Nat×Nat}{p:Nat}{z:Int} (F:Forced h w b v l p z) (x:List Int):x∈Qj8 b l (setC v (posL l p).1 (posL l p).2 (some z))↔x∈Qj8 b l v:=by
 obtain⟨hr,hc⟩:=Qd0 F.hl F.hp
 rw[Qi5 ob ov F.bit hr hc F.op F.hl]
 exact⟨fun g=>g.1,fun g=>⟨g,fun q hq e=>by rw[Zs0 (l:=l) (p:=q) (q:=p) e];exact F.all x g⟩⟩
structure Calm (h w:Nat) (b:Brd) (v:View) (l:Nat×Nat):Prop where
 ex:Qj8 b l v≠[]
 both:∀p,p<lenL h w l→Qy2 v l p→∃x∈Qj8 b l v,∃y∈Qj8 b l v,x.getD p 0≠y.getD p 0
theorem Calm.other {h w:Nat}{b:Brd} (ob:BOk h w b) {v:View} (ov:VOk h w v) {l:Nat×Nat} (hl:LOk h w l) {r c:Nat}{z:Int} (hz:z=0∨z=1) (hr:r<h) (hc:c<w) (op:Qz5 v r c=none) (no:∀p,p<lenL h w l→posL l p≠(r,c)) (C:Calm h w b v l):Calm h w b (setC v r c (some z)) l:=by
 have e:∀x,x∈Qj8 b l (setC v r c (some z))↔x∈Qj8 b l v:=fun x=>by
  rw[Qi5 ob ov hz hr hc op hl]
  exact⟨fun g=>g.1,fun g=>⟨g,fun p hp q=>absurd q (no p hp)⟩⟩
 refine⟨fun q=>?_,fun p hp ho=>?_⟩
 ·obtain⟨x,hx⟩:=List.exists_mem_of_ne_nil _ C.ex
  have:=(e x).mpr hx
  rw[q]at this
  cases this
 ·unfold Qy2 at ho
  rw[Qk8 ov hr hc]at ho
  split at ho
  ·cases ho
  ·obtain⟨x,hx,y,hy,ne⟩:=C.both p hp ho
   exact⟨x,(e x).mpr hx,y,(e y).mpr hy,ne⟩
theorem Xe9 {h w:Nat}{b:Brd}{v:View} (C:∀l,LOk h w l→Calm h w b v l) (d:Done h w v):Leaf h w b .pic v [v]:=.pic d fun l hl=>(C l hl).ex
end
section
def pack:List Int→Nat
 | []=>0
 | z::r=>(if z=1 then 1 else 0)+2*pack r
theorem Qy6:∀(c:List Int) (p:Nat),(pack c).testBit p=decide (c.getD p 0=1)
 | [],p=>by unfold pack;simp
 | z::r,0=>by
  unfold pack
  rw[Nat.testBit_zero]
  by_cases h:z=1
  ·rw[if_pos h,List.getD_cons_zero,h,decide_eq_true (by omega)];rfl
  ·rw[if_neg h,List.getD_cons_zero,decide_eq_false h,decide_eq_false (by omega)]
 | z::r,p+1=>by
  unfold pack
  rw[Nat.testBit_succ,List.getD_cons_succ,←Qy6 r p]
  congr 1
  split<;>omega
theorem Ze8:∀(c:List Int),pack c<2^c.length
 | []=>by unfold pack;simp
 | z::r=>by
  have:=Ze8 r
  unfold pack
  rw[List.length_cons,Nat.pow_succ]
  split<;>omega
def Qz3 (s:Qj5) (x:Int):Nat:=pack (s.map fun o=>if o=some x then 1 else 0)
theorem Qi6 (s:Qj5) (x:Int) (p:Nat):(Qz3 s x).testBit p=decide (s.getD p none=some x):=by
 unfold Qz3
 rw[Qy6,List.getD_eq_getElem?_getD,List.getElem?_map,List.getD_eq_getElem?_getD]
 cases h:s[p]? with
 | none=>simp
 | some o =>
  simp only[Option.map_some,Option.getD_some]
  by_cases q:o=some x
  ·simp[q]
  ·simp[q]
theorem Xm2 {m n:Nat}:m&&&n=n↔∀p,n.testBit p=true→m.testBit p=true:=by
 constructor
 ·intro e p hp
  have:=congrArg (fun k=>k.testBit p) e
  simp only[Nat.testBit_and]at this
  rw[hp,Bool.and_true]at this
  exact this
 ·intro g
  apply Nat.eq_of_testBit_eq
  intro p
  rw[Nat.testBit_and]
  cases q:n.testBit p with
  | false=>rw[Bool.and_false]
  | true=>rw[g p q];rfl
theorem Xn6 {m n:Nat}:m&&&n=0↔∀p,n.testBit p=true→m.testBit p=false:=by
 constructor
 ·intro e p hp
  have:=congrArg (fun k=>k.testBit p) e
  simp only[Nat.testBit_and,Nat.zero_testBit]at this
  rw[hp,Bool.and_true]at this
  exact this
 ·intro g
  apply Nat.eq_of_testBit_eq
  intro p
  rw[Nat.testBit_and,Nat.zero_testBit]
  cases q:n.testBit p with
  | false=>rw[Bool.and_false]
  | true=>rw[g p q];rfl
theorem Za5 {s:Qj5}{c:List Int} (hl:c.length=s.length) (hs:Qd6 s) (hc:Qd5 c):Qh7 s c=true↔(pack c&&&Qz3 s 1=Qz3 s 1∧pack c&&&Qz3 s 0=0):=by
 rw[Zq2 hl,Xm2,Xn6]
 constructor
 ·intro g
  refine⟨fun p hp=>?_,fun p hp=>?_⟩
  ·rw[Qi6,decide_eq_true_eq]at hp
   rw[Qy6,decide_eq_true_eq]
   have hps:p<s.length:=by
    refine Nat.lt_of_not_le fun q=>?_
    rw[List.getD_eq_getElem?_getD,List.getElem?_eq_none q]at hp
    cases hp
   rcases g p hps with t|t
   ·rw[hp]at t;cases t
   ·rw[hp]at t;exact(Option.some.inj t).symm
  ·rw[Qi6,decide_eq_true_eq]at hp
   rw[Qy6,decide_eq_false_iff_not]
   have hps:p<s.length:=by
    refine Nat.lt_of_not_le fun q=>?_
    rw[List.getD_eq_getElem?_getD,List.getElem?_eq_none q]at hp
    cases hp
   rcases g p hps with t|t
   ·rw[hp]at t;cases t
   ·rw[hp]at t
    rw[←Option.some.inj t]
    decide
 ·rintro⟨g1,g2⟩ p hp
  have hb:s.getD p none=none∨s.getD p none=some 0∨s.getD p none=some 1:=by
   rw[Qz4 (List.getElem?_eq_getElem hp)]
   exact hs _ (List.getElem_mem hp)
  have hcb:c.getD p 0=0∨c.getD p 0=1:=by
   rw[Qz4 (List.getElem?_eq_getElem (show p<c.length by omega))]
   exact hc _ (List.getElem_mem _)
  rcases hb with q|q|q
  ·exact .inl q
  ·right
   have:=g2 p (by rw[Qi6,q];simp)
   rw[Qy6,decide_eq_false_iff_not]at this
   rw[q,show c.getD p 0=0 by omega]
  ·right
   have:=g1 p (by rw[Qi6,q];simp)
   rw[Qy6,decide_eq_true_eq]at this
   rw[q,this]
theorem Yq0 (m n:Nat):Builtin.bitAnd (m:Int) (n:Int)=((m&&&n:Nat):Int):=rfl
theorem Ze9 (n p:Nat):Builtin.bitAnd ((n:Int)/2^p) 1=if n.testBit p=true then 1 else 0:=by
 have e:(n:Int)/2^p=((n/2^p:Nat):Int):=by
  rw[Int.natCast_ediv]
  congr 1
 rw[e,show (1:Int)=((1:Nat):Int) from rfl,Yq0,Nat.and_one_is_mod,Nat.testBit_eq_decide_div_mod_eq]
 by_cases h:n/2^p%2=1
 ·rw[h];simp
 ·rw[show n/2^p%2=0 by omega];simp
def alw (x:Nat) (xs:List Nat):Nat:=xs.foldl (·&&&·) x
def evr (x:Nat) (xs:List Nat):Nat:=xs.foldl (·|||·) x
theorem Xq0 (p:Nat):∀(xs:List Nat) (x:Nat),(alw x xs).testBit p=(x.testBit p&&xs.all fun y=>y.testBit p)
 | [],x=>by unfold alw;simp
 | y::ys,x=>by
  show (alw (x&&&y) ys).testBit p=_
  rw[Xq0 p ys (x&&&y),Nat.testBit_and,List.all_cons,Bool.and_assoc]
theorem Xm3 (p:Nat):∀(xs:List Nat) (x:Nat),(evr x xs).testBit p=(x.testBit p||xs.any fun y=>y.testBit p)
 | [],x=>by unfold evr;simp
 | y::ys,x=>by
  show (evr (x|||y) ys).testBit p=_
  rw[Xm3 p ys (x|||y),Nat.testBit_or,List.any_cons,Bool.or_assoc]
theorem Xn7:∀m n:Fin 16,(m.val&&&n.val=n.val)→∀p:Fin 4,(m.val-n.val).testBit p.val=(m.val.testBit p.val&&!n.val.testBit p.val):=by decide +kernel
theorem Zs2 {m k p:Nat} (h:m<2^k) (hp:k≤p):m.testBit p=false:=Nat.testBit_lt_two_pow (Nat.lt_of_lt_of_le h (Nat.pow_le_pow_right (by decide) hp))
theorem Yw4 {m n:Nat} (hm:m<16) (hs:m&&&n=n) (p:Nat):(m-n).testBit p=(m.testBit p&&!n.testBit p):=by
 have hn:n≤m:=by rw[←hs];exact Nat.and_le_left
 by_cases hp:p<4
 ·exact Xn7 ⟨m,hm⟩ ⟨n,by omega⟩ hs ⟨p,hp⟩
 ·rw[Zs2 (k:=4) (show m-n<2^4 by omega) (by omega),Zs2 (k:=4) (show m<2^4 by omega) (by omega),Bool.false_and]
theorem Xn8 {x:Nat}{xs:List Nat} (hx:∀y∈x::xs,y<16) (p:Nat):(evr x (x::xs)-alw x (x::xs)).testBit p=true↔∃y∈x::xs,∃z∈x::xs,y.testBit p≠z.testBit p:=by
 have he:∀q,(evr x (x::xs)).testBit q=(x::xs).any fun y=>y.testBit q:=fun q=>by
  rw[Xm3,List.any_cons,←Bool.or_assoc,Bool.or_self]
 have ha:∀q,(alw x (x::xs)).testBit q=(x::xs).all fun y=>y.testBit q:=fun q=>by
  rw[Xq0,List.all_cons,←Bool.and_assoc,Bool.and_self]
 have hsub:evr x (x::xs)&&&alw x (x::xs)=alw x (x::xs):=Xm2.mpr fun q hq=>by
  rw[ha,List.all_eq_true]at hq
  rw[he,List.any_eq_true]
  exact⟨x,List.mem_cons_self ..,hq x (List.mem_cons_self ..)⟩
 have hlt:evr x (x::xs)<16:=by
  refine Nat.lt_of_not_le fun q=>?_
  obtain⟨i,hi,hb⟩:=Nat.exists_ge_and_testBit_of_ge_two_pow (n:=4) q
  rw[he,List.any_eq_true]at hb
  obtain⟨y,hy,hyb⟩:=hb
  rw[Zs2 (k:=4) (hx y hy) hi]at hyb
  cases hyb
 rw[Yw4 hlt hsub,he,ha,Bool.and_eq_true,List.any_eq_true,Bool.not_eq_true']
 constructor
 ·rintro⟨⟨y,hy,hyb⟩,hno⟩
  obtain⟨z,hz,hzb⟩:∃z∈x::xs,z.testBit p=false:=by
   refine Classical.byContradiction fun g=>?_
   have:((x::xs).all fun y=>y.testBit p)=true:=List.all_eq_true.mpr fun z hz=>by
    cases q:z.testBit p with
    | true=>rfl
    | false=>exact absurd ⟨z,hz,q⟩ g
   rw[this]at hno
   cases hno
  exact⟨y,hy,z,hz,by rw[hyb,hzb];decide⟩
 ·rintro⟨y,hy,z,hz,hne⟩
  have key:∀a∈x::xs,∀c∈x::xs,a.testBit p=true→c.testBit p=false→(∃y∈x::xs,y.testBit p=true)∧((x::xs).all fun y=>y.testBit p)=false:=fun a ha' c hc' h1 h2=>by
   refine⟨⟨a,ha',h1⟩,?_⟩
   cases q:(x::xs).all fun y=>y.testBit p with
   | false=>rfl
   | true=>rw[List.all_eq_true.mp q c hc']at h2;cases h2
  cases q1:y.testBit p with
  | true =>
   cases q2:z.testBit p with
   | true=>rw[q1,q2]at hne;exact absurd rfl hne
   | false=>exact key y hy z hz q1 q2
  | false =>
   cases q2:z.testBit p with
   | false=>rw[q1,q2]at hne;exact absurd rfl hne
   | true=>exact key z hz y hy q2 q1
end
section
def fitR (rs:List Nat) (n:Nat):Bool:=decide (rs.sum+rs.length≤n+1)
def Xm4:List (List Nat):=[[],[1],[2],[3],[4],[1,1],[1,2],[2,1]]
theorem Yq1:∀n:Fin 5,(Xm4.all fun rs=>!fitR rs n.val||(((plN rs (n.val:Nat)).all fun x=>(Qj1 n.val).any fun c=>decide (Qk2 c=Qw3 rs)&&decide (pack c=x))&&((Qj1 n.val).all fun c=>!decide (Qk2 c=Qw3 rs)||(plN rs (n.val:Nat)).contains (pack c))))=true:=by decide +kernel
theorem Yq2 {rs:List Nat}{n:Nat} (hp:∀k∈rs,1≤k) (hn:n≤4) (hf:fitR rs n=true):rs∈Xm4:=by
 have hf':rs.sum+rs.length≤n+1:=of_decide_eq_true hf
 match rs,hp,hf' with
 | [],_,_=>decide
 | [a],hp,hf' =>
  have:=hp a (by simp)
  simp at hf'
  rcases (by omega:a=1∨a=2∨a=3∨a=4) with rfl|rfl|rfl|rfl<;>decide
 | [a,b],hp,hf' =>
  have:=hp a (by simp)
  have:=hp b (by simp)
  simp at hf'
  rcases (by omega:(a=1∧b=1)∨(a=1∧b=2)∨(a=2∧b=1)) with ⟨rfl,rfl⟩|⟨rfl,rfl⟩|⟨rfl,rfl⟩<;>decide
 | a::b::c::r,hp,hf' =>
  have:=hp a (by simp)
  have:=hp b (by simp)
  have:=hp c (by simp)
  simp only[List.sum_cons,List.length_cons]at hf'
  omega
theorem Yw5 {k:Nat}{rs:List Nat}{n:Nat} (hf:fitR (k::rs) n=false):plN (k::rs) (n:Nat)=[]:=by
 have hf':¬(k::rs).sum+(k::rs).length≤n+1:=of_decide_eq_false hf
 rw[List.length_cons]at hf'
 unfold plN
 rw[show ((n:Nat):Int)-((k::rs).sum:Nat)-(rs.length:Nat)+1=((n:Nat):Int)-((k::rs).sum:Nat)-(rs.length:Nat)+1 from rfl,Int.toNat_eq_zero.mpr (by omega)]
 rfl
theorem Xn9 (rs:List Nat):(Qw3 rs).sum=((rs.sum:Nat):Int):=by
 unfold Qw3
 induction rs with
 | nil=>rfl
 | cons k rs ih=>rw[List.map_cons,List.sum_cons,List.sum_cons,ih];omega
theorem Xi0 {c:List Int}{rs:List Nat} (h:Qk2 c=Qw3 rs):rs.sum+rs.length≤c.length+1:=by
 have q:=Zw6 c 0 (Int.le_refl _)
 rw[←Qo4,h,Xn9]at q
 have:(Qw3 rs).length=rs.length:=by unfold Qw3;rw[List.length_map]
 omega
theorem Xi1 {rs:List Nat}{n:Nat} (hp:∀k∈rs,1≤k) (hn:n≤4) (x:Nat):x∈plN rs (n:Nat)↔∃c:List Int,Qd5 c∧c.length=n∧Qk2 c=Qw3 rs∧pack c=x:=by
 cases hf:fitR rs n with
 | false =>
  have no:¬∃c:List Int,Qd5 c∧c.length=n∧Qk2 c=Qw3 rs∧pack c=x:=by
   rintro⟨c,_,hl,hr,_⟩
   have:=Xi0 hr
   rw[hl]at this
   exact absurd this (of_decide_eq_false hf)
  cases rs with
  | nil =>
   have:¬(([]:List Nat).sum+([]:List Nat).length≤n+1):=of_decide_eq_false hf
   simp at this
  | cons k rs =>
   rw[Yw5 hf]
   exact⟨fun h=>(by cases h),fun h=>absurd h no⟩
 | true =>
  have hm:=Yq2 hp hn hf
  have key:=List.all_eq_true.mp (Yq1 ⟨n,by omega⟩) rs hm
  dsimp only at key
  rw[hf,Bool.not_true,Bool.false_or,Bool.and_eq_true]at key
  obtain⟨k1,k2⟩:=key
  constructor
  ·intro hx
   have:=List.all_eq_true.mp k1 x hx
   rw[List.any_eq_true]at this
   obtain⟨c,hc,e⟩:=this
   rw[Bool.and_eq_true,decide_eq_true_eq,decide_eq_true_eq]at e
   obtain⟨h1,h2⟩:=(Qf9 n c).mp hc
   exact⟨c,h2,h1,e.1,e.2⟩
  ·rintro⟨c,hb,hl,hr,rfl⟩
   have:=List.all_eq_true.mp k2 c ((Qf9 n c).mpr ⟨hl,hb⟩)
   rw[decide_eq_true hr,Bool.not_true,Bool.false_or]at this
   exact List.contains_iff_mem.mp this
theorem Yx9 {rs:List Nat}{n:Nat} (hp:∀k∈rs,1≤k) (hn:n≤4) {x:Nat} (hx:x∈plN rs (n:Nat)):x<16:=by
 obtain⟨c,_,hl,_,rfl⟩:=(Xi1 hp hn x).mp hx
 have:=Ze8 c
 rw[hl]at this
 exact Nat.lt_of_lt_of_le this (Nat.pow_le_pow_right (n:=2) (by decide) hn)
end
section
def Qd7 (rs:List Nat) (n F E:Nat):List Nat:=(plN rs (n:Nat)).filter fun x=>decide (x&&&F=F)&&decide (x&&&E=0)
theorem Yq3 {rs:List Nat}{s:Qj5} (hp:∀k∈rs,1≤k) (hn:s.length≤4) (hs:Qd6 s) (x:Nat):x∈Qd7 rs s.length (Qz3 s 1) (Qz3 s 0)↔∃c∈layL rs s,pack c=x:=by
 unfold Qd7
 rw[List.mem_filter,Xi1 hp hn,Bool.and_eq_true,decide_eq_true_eq,decide_eq_true_eq]
 constructor
 ·rintro⟨⟨c,hb,hl,hr,rfl⟩,h1,h2⟩
  refine⟨c,?_,rfl⟩
  rw[Qc6 hp hs]
  exact⟨hb,hl,hr,(Zq2 hl).mp ((Za5 hl hs hb).mpr ⟨h1,h2⟩)⟩
 ·rintro⟨c,hc,rfl⟩
  rw[Qc6 hp hs]at hc
  obtain⟨hb,hl,hr,hk⟩:=hc
  obtain⟨h1,h2⟩:=(Za5 hl hs hb).mp ((Zq2 hl).mpr hk)
  exact⟨⟨c,hb,hl,hr,rfl⟩,h1,h2⟩
def alwN:List Nat→Nat
 | []=>0
 | x::xs=>alw x (x::xs)
def Qj7:List Nat→Nat
 | []=>0
 | x::xs=>evr x (x::xs)-alw x (x::xs)
def Qm9 (n:Nat) (L:List Nat) (F E:Nat):List (Nat×Nat):=((List.range n).filter fun p=>!(Qj7 L|||F|||E).testBit p).map fun p=>(p,if (alwN L).testBit p=true then 1 else 0)
theorem Zp0 {L:List Nat} (hL:∀y∈L,y<16) (p:Nat):(Qj7 L).testBit p=true↔∃y∈L,∃z∈L,y.testBit p≠z.testBit p:=by
 cases L with
 | nil=>simp[Qj7]
 | cons x xs=>exact Xn8 hL p
theorem Yq4 {L:List Nat} (hne:L≠[]) (p:Nat):(alwN L).testBit p=L.all fun y=>y.testBit p:=by
 cases L with
 | nil=>exact absurd rfl hne
 | cons x xs =>
  show (alw x (x::xs)).testBit p=_
  rw[Xq0,List.all_cons,←Bool.and_assoc,Bool.and_self]
abbrev Qj9 (h w:Nat) (b:Brd) (v:View) (l:Nat×Nat):List Nat:=Qd7 (Qw8 b l.1 l.2) (lenL h w l) (Qz3 (Qq7 v l.1 l.2) 1) (Qz3 (Qq7 v l.1 l.2) 0)
section
variable {h w:Nat}{b:Brd}{v:View}{l:Nat×Nat}
theorem Qt2 (hh:h≤4) (hw:w≤4):lenL h w l≤4:=by unfold lenL;split<;>omega
theorem Qp1 (ob:BOk h w b) (o:VOk h w v) (hh:h≤4) (hw:w≤4) (hl:LOk h w l) (x:Nat):x∈Qj9 h w b v l↔∃c∈Qj8 b l v,pack c=x:=by
 unfold Qj9 Qj8
 rw[←Qv9 o hl]
 exact Yq3 (ob.pos hl) (by rw[Qv9 o hl];exact Qt2 hh hw) (Qm0 o hl) x
theorem Zs3 (ob:BOk h w b) (hh:h≤4) (hw:w≤4) (hl:LOk h w l):∀y∈Qj9 h w b v l,y<16:=fun y hy=>by
 unfold Qj9 Qd7 at hy
 exact Yx9 (ob.pos hl) (Qt2 hh hw) (List.mem_filter.mp hy).1
theorem Zm9 (ob:BOk h w b) (o:VOk h w v) (hh:h≤4) (hw:w≤4) (hl:LOk h w l):Qj9 h w b v l=[]↔Qj8 b l v=[]:=by
 constructor
 ·intro e
  cases q:Qj8 b l v with
  | nil=>rfl
  | cons c cs =>
   have:=(Qp1 ob o hh hw hl (pack c)).mpr ⟨c,by rw[q];exact List.mem_cons_self ..,rfl⟩
   rw[e]at this
   cases this
 ·intro e
  cases q:Qj9 h w b v l with
  | nil=>rfl
  | cons y ys =>
   obtain⟨c,hc,_⟩:=(Qp1 ob o hh hw hl y).mp (by rw[q];exact List.mem_cons_self ..)
   rw[e]at hc
   cases hc
theorem Zv2 (ob:BOk h w b) (o:VOk h w v) (hl:LOk h w l) {c:List Int} (hc:c∈Qj8 b l v) {p:Nat} (hp:p<lenL h w l):c.getD p 0=0∨c.getD p 0=1:=by
 unfold Qj8 at hc
 rw[Qc6 (ob.pos hl) (Qm0 o hl)]at hc
 have hlen:=hc.2.1
 rw[Qv9 o hl]at hlen
 rw[Qz4 (List.getElem?_eq_getElem (show p<c.length by omega))]
 exact hc.1 _ (List.getElem_mem _)
theorem Zs4 (o:VOk h w v) (hl:LOk h w l) {p:Nat} (hp:p<lenL h w l):(Qz3 (Qq7 v l.1 l.2) 1|||Qz3 (Qq7 v l.1 l.2) 0).testBit p=false↔Qy2 v l p:=by
 rw[Nat.testBit_or,Qi6,Qi6,Qw9 o hl hp]
 unfold Qy2
 obtain⟨q1,q2⟩:=Qd0 hl hp
 rcases Zs1 o q1 q2 with g|g|g<;>rw[g]<;>simp
theorem Xl3 (ob:BOk h w b) (o:VOk h w v) (hh:h≤4) (hw:w≤4) (hl:LOk h w l) (hne:Qj9 h w b v l≠[]) {p z:Nat}
  (hm:(p,z)∈Qm9 (lenL h w l) (Qj9 h w b v l) (Qz3 (Qq7 v l.1 l.2) 1) (Qz3 (Qq7 v l.1 l.2) 0)):Forced h w b v l p z:=by
 unfold Qm9 at hm
 obtain⟨p',hp',e⟩:=List.mem_map.mp hm
 cases e
 obtain⟨hr,hno⟩:=List.mem_filter.mp hp'
 have hp:p<lenL h w l:=List.mem_range.mp hr
 rw[Bool.not_eq_true',Nat.testBit_or,Nat.testBit_or,Bool.or_assoc,Bool.or_eq_false_iff,←Nat.testBit_or]at hno
 have hop:=(Zs4 o hl hp).mp hno.2
 have same:∀y∈Qj9 h w b v l,∀y'∈Qj9 h w b v l,y.testBit p=y'.testBit p:=fun y hy y' hy'=>by
  refine Classical.byContradiction fun ne=>?_
  have:=(Zp0 (Zs3 ob hh hw hl) p).mpr ⟨y,hy,y',hy',ne⟩
  rw[hno.1]at this
  cases this
 have hval:∀y∈Qj9 h w b v l,y.testBit p=(alwN (Qj9 h w b v l)).testBit p:=fun y hy=>by
  rw[Yq4 hne]
  cases q:y.testBit p with
  | true=>exact(List.all_eq_true.mpr fun y' hy'=>by rw[←same y hy y' hy',q]).symm
  | false =>
   cases q2:(Qj9 h w b v l).all fun y=>y.testBit p with
   | false=>rfl
   | true=>rw[List.all_eq_true.mp q2 y hy]at q;cases q
 refine⟨hl,hp,hop,by split<;>simp,fun c hc=>?_⟩
 have hx:=hval _ ((Qp1 ob o hh hw hl (pack c)).mpr ⟨c,hc,rfl⟩)
 rw[Qy6]at hx
 rcases Zv2 ob o hl hc hp with g|g
 ·rw[g]at hx ⊢
  rw[←hx]
  rfl
 ·rw[g]at hx ⊢
  rw[←hx]
  rfl
end
end
section
variable {h w:Nat}{b:Brd}{v u:View}{l:Nat×Nat}
def Qa4 (L:List Nat):Nat×List Nat:=(Qj7 L,L.map fun x=>x&&&Qj7 L)
theorem Qa5 (ob:BOk h w b) (o:VOk h w v) (hh:h≤4) (hw:w≤4) (hl:LOk h w l) (C:Calm h w b v l) {p:Nat} (hp:p<lenL h w l):Qy2 v l p↔(Qj7 (Qj9 h w b v l)).testBit p=true:=by
 rw[Zp0 (Zs3 ob hh hw hl)]
 constructor
 ·intro ho
  obtain⟨x,hx,y,hy,ne⟩:=C.both p hp ho
  refine⟨pack x,(Qp1 ob o hh hw hl _).mpr ⟨x,hx,rfl⟩,pack y,(Qp1 ob o hh hw hl _).mpr ⟨y,hy,rfl⟩,fun e=>ne ?_⟩
  rw[Qy6,Qy6]at e
  have:=decide_eq_decide.mp e
  rcases Zv2 ob o hl hx hp with g|g<;>rcases Zv2 ob o hl hy hp with g'|g'<;>omega
 ·rintro⟨y,hy,z,hz,ne⟩
  obtain⟨c,hc,rfl⟩:=(Qp1 ob o hh hw hl y).mp hy
  obtain⟨d,hd,rfl⟩:=(Qp1 ob o hh hw hl z).mp hz
  rw[Qy6,Qy6]at ne
  unfold Qj8 at hc hd
  rw[Qc6 (ob.pos hl) (Qm0 o hl),Qv9 o hl]at hc hd
  have k1:=hc.2.2.2 p hp
  have k2:=hd.2.2.2 p hp
  rw[Qw9 o hl hp]at k1 k2
  unfold Qy2
  rcases k1 with g|g
  ·exact g
  ·rcases k2 with g'|g'
   ·exact g'
   ·rw[g]at g'
    exact absurd (by rw[Option.some.inj g']) ne
theorem Yq5 (ob:BOk h w b) (ov:VOk h w v) (ou:VOk h w u) (hh:h≤4) (hw:w≤4) (cv:∀l,LOk h w l→Calm h w b v l) (cu:∀l,LOk h w l→Calm h w b u l)
  (e:∀l,LOk h w l→Qa4 (Qj9 h w b v l)=Qa4 (Qj9 h w b u l)):Alike h w b v u:=by
 have lo:∀l,LOk h w l→Qj7 (Qj9 h w b v l)=Qj7 (Qj9 h w b u l):=fun l hl=>congrArg Prod.fst (e l hl)
 have half:∀{v u:View},VOk h w v→VOk h w u→(∀l,LOk h w l→Calm h w b v l)→(∀l,LOk h w l→Qa4 (Qj9 h w b v l)=Qa4 (Qj9 h w b u l))→∀l,LOk h w l→∀c∈Qj8 b l v,∃d∈Qj8 b l u,∀p,p<lenL h w l→Qy2 v l p→c.getD p 0=d.getD p 0:=by
  intro v u ov ou cv e l hl c hc
  have hx:=(Qp1 ob ov hh hw hl (pack c)).mpr ⟨c,hc,rfl⟩
  have e1:Qj7 (Qj9 h w b v l)=Qj7 (Qj9 h w b u l):=congrArg Prod.fst (e l hl)
  have e2:(Qj9 h w b v l).map (fun x=>x&&&Qj7 (Qj9 h w b v l))=(Qj9 h w b u l).map (fun x=>x&&&Qj7 (Qj9 h w b u l)):=congrArg Prod.snd (e l hl)
  have hm:pack c&&&Qj7 (Qj9 h w b v l)∈(Qj9 h w b u l).map (fun x=>x&&&Qj7 (Qj9 h w b u l)):=by
   rw[←e2]
   exact List.mem_map.mpr ⟨_,hx,rfl⟩
  obtain⟨y,hy,ey⟩:=List.mem_map.mp hm
  obtain⟨d,hd,rfl⟩:=(Qp1 ob ou hh hw hl y).mp hy
  refine⟨d,hd,fun p hp ho=>?_⟩
  have hb:=(Qa5 ob ov hh hw hl (cv l hl) hp).mp ho
  have:=congrArg (fun k=>k.testBit p) ey
  simp only[Nat.testBit_and]at this
  rw[←e1,hb,Bool.and_true,Bool.and_true,Qy6,Qy6]at this
  have:=decide_eq_decide.mp this
  rcases Zv2 ob ov hl hc hp with g|g<;>rcases Zv2 ob ou hl hd hp with g'|g'<;>omega
 refine⟨fun i j hi hj=>?_,half ov ou cv e,fun l hl d hd=>?_⟩
 ·have hl:LOk h w (0,i):=.inl ⟨rfl,hi⟩
  have hp:j<lenL h w (0,i):=by unfold lenL;rw[if_pos rfl];exact hj
  have q1:=Qa5 ob ov hh hw hl (cv _ hl) hp
  have q2:=Qa5 ob ou hh hw hl (cu _ hl) hp
  rw[lo _ hl,←q2]at q1
  exact q1
 ·obtain⟨c,hc,g⟩:=half ou ov cu (fun l hl=>(e l hl).symm) l hl d hd
  refine⟨c,hc,fun p hp ho=>(g p hp ?_).symm⟩
  have q1:=Qa5 ob ov hh hw hl (cv _ hl) hp
  have q2:=Qa5 ob ou hh hw hl (cu _ hl) hp
  rw[lo _ hl,←q2]at q1
  exact q1.mp ho
structure Found (h w:Nat) (b:Brd) (v:View) (t:Tree) (ps qs:List View):Prop where
 new:∃ns,qs=ps++ns∧(∀u∈ns,VOk h w u∧Done h w u∧Fits h w b u∧LeV h w v u)∧ns.Nodup∧(qs.length≤1→Leaf h w b t v ns)
theorem Found.force (ob:BOk h w b) {fs:List Fc} (T:Tells h w b v fs u) (ov:VOk h w v) {t:Tree}{ps qs:List View} (F:Found h w b u t ps qs):Found h w b v (Zj8 fs t) ps qs:=by
 obtain⟨ns,e,g1,g2,g3⟩:=F.new
 exact⟨ns,e,fun x hx=>⟨(g1 x hx).1,(g1 x hx).2.1,(g1 x hx).2.2.1,Zq3 (T.le ov) (g1 x hx).2.2.2⟩,g2,fun hq=>(g3 hq).forceAll ob T ov⟩
theorem Found.shut (hl:LOk h w l) (no:Qj8 b l v=[]) (ps:List View):Found h w b v (.shut l.1 l.2) ps ps:=⟨[],(List.append_nil _).symm,fun x hx=>(by cases hx),List.nodup_nil,fun _=>.shut hl no⟩
theorem Found.pic (ov:VOk h w v) (C:∀l,LOk h w l→Calm h w b v l) (d:Done h w v) (ps:List View):Found h w b v .pic ps (ps++[v]) :=
 ⟨[v],rfl,fun x hx=>by rw[List.mem_singleton.mp hx];exact⟨ov,d,fun l hl=>(C l hl).ex,fun i j _ _ z q=>q⟩,by simp,fun _=>Xe9 C d⟩
theorem Found.both (ov:VOk h w v) {r c:Nat} (hr:r<h) (hc:c<w) (op:Qz5 v r c=none) {t0 t1:Tree}{ps qs rs:List View} (F1:Found h w b (setC v r c (some 1)) t1 ps qs) (F0:Found h w b (setC v r c (some 0)) t0 qs rs):Found h w b v (.tri r c t0 t1) ps rs:=by
 obtain⟨n1,e1,a1,d1,l1⟩:=F1.new
 obtain⟨n0,e0,a0,d0,l0⟩:=F0.new
 refine⟨n1++n0,by rw[e0,e1,List.append_assoc],fun x hx=>?_,List.nodup_append.mpr ⟨d1,d0,fun x hx y hy e=>?_⟩,fun hq=>?_⟩
 ·rcases List.mem_append.mp hx with g|g
  ·exact⟨(a1 x g).1,(a1 x g).2.1,(a1 x g).2.2.1,Zq3 (Qr8 ov hr hc op) (a1 x g).2.2.2⟩
  ·exact⟨(a0 x g).1,(a0 x g).2.1,(a0 x g).2.2.1,Zq3 (Qr8 ov hr hc op) (a0 x g).2.2.2⟩
 ·have q1:=(a1 x hx).2.2.2 _ _ hr hc 1 (by rw[Qk8 ov hr hc,if_pos ⟨rfl,rfl⟩])
  have q0:=(a0 y hy).2.2.2 _ _ hr hc 0 (by rw[Qk8 ov hr hc,if_pos ⟨rfl,rfl⟩])
  rw[e,q0]at q1
  cases q1
 ·have hlen:ps.length+n1.length+n0.length≤1:=by
   rw[e0,e1,List.length_append,List.length_append]at hq
   exact hq
  have:=Leaf.tri hr hc op (l0 hq) (l1 (by rw[e1,List.length_append];omega))
  have ecm:n0++n1=n1++n0:=by
   cases n0 with
   | nil=>simp
   | cons a as =>
    cases n1 with
    | nil=>simp
    | cons c cs=>simp only[List.length_cons]at hlen;omega
  rw[ecm]at this
  exact this
theorem Found.half (ov:VOk h w v) {r c:Nat} (hr:r<h) (hc:c<w) (op:Qz5 v r c=none) {t t1:Tree}{ps qs:List View} (F1:Found h w b (setC v r c (some 1)) t1 ps qs) (two:¬qs.length≤1):Found h w b v t ps qs:=by
 obtain⟨n1,e1,a1,d1,l1⟩:=F1.new
 exact⟨n1,e1,fun x g=>⟨(a1 x g).1,(a1 x g).2.1,(a1 x g).2.2.1,Zq3 (Qr8 ov hr hc op) (a1 x g).2.2.2⟩,d1,fun z=>absurd z two⟩
theorem Found.again (ob:BOk h w b) (ov:VOk h w v) (ou:VOk h w u) (hh:h≤4) (hw:w≤4) (cv:∀l,LOk h w l→Calm h w b v l) (cu:∀l,LOk h w l→Calm h w b u l) (e:∀l,LOk h w l→Qa4 (Qj9 h w b u l)=Qa4 (Qj9 h w b v l)) {t:Tree} (L:Leaf h w b t u []) (ps:List View):Found h w b v t ps ps :=
 ⟨[],(List.append_nil _).symm,fun x hx=>(by cases hx),List.nodup_nil,fun _=>L.alike ob rfl v ou ov (Yq5 ob ou ov hh hw cu cv e)⟩
end
section
def Zx5:Tree→Dt
 | .pic=>.tup [.str "picture"]
 | .shut s n=>.tup [.str "shut",.str (Qu6 s),.int (n:Nat)]
 | .tri r c t0 t1=>.tup [.str "try",.int (r:Nat),.int (c:Nat),Zx5 t0,Zx5 t1]
def Zq4 (H:Hp):Hp:=fun a=>match H a with|some (.tup xs)=>some (.tup xs)|_=>none
def TupK (H H':Hp):Prop:=∀a xs,H a=some (.tup xs)→H' a=some (.tup xs)
theorem TupK.of {H H':Hp} (s:Same H H'):TupK H H':=fun a xs h=>s a _ h
theorem TupK.trans {H H1 H2:Hp} (a:TupK H H1) (b:TupK H1 H2):TupK H H2:=fun x xs h=>b x xs (a x xs h)
theorem TupK.refl (H:Hp):TupK H H:=fun _ _ h=>h
theorem TupK.upd {H:Hp}{a:Addr}{o o':HO} (h:H a=some o) (n:∀xs,o≠.tup xs):TupK H (upd H a o'):=fun x xs q=>by
 rw[Qz1 (fun e=>by rw[e,h]at q;exact n xs (Option.some.inj q))]
 exact q
theorem Zp1 {H:Hp}{a:Addr}{xs:List V} (h:H a=some (.tup xs)):Zq4 H a=some (.tup xs):=by unfold Zq4;rw[h]
theorem tups_inv {H:Hp}{a:Addr}{xs:List V} (h:Zq4 H a=some (.tup xs)):H a=some (.tup xs):=by
 unfold Zq4 at h
 split at h
 ·rename_i q;rw[q];exact h
 ·cases h
theorem TupK.same {H H':Hp} (k:TupK H H'):Same (Zq4 H) (Zq4 H'):=fun a o h=>by
 unfold Zq4 at h
 split at h
 ·rename_i ys q
  cases h
  exact Zp1 (k a ys q)
 ·cases h
def IsT (H:Hp) (t:Tree) (v:V):Prop:=IsD (Zq4 H) (Zx5 t) v
theorem IsT.mono {H H':Hp} (k:TupK H H') {t:Tree}{v:V} (h:IsT H t v):IsT H' t v:=IsD.mono k.same h
theorem Xg6 {H:Hp}{a:Addr}{s n:Nat} (h:H a=some (.tup [.str "shut",.str (Qu6 s),.int (n:Nat)])):IsT H (.shut s n) (.ref a):=by
 unfold IsT Zx5 IsD
 refine⟨a,_,rfl,Zp1 h,?_⟩
 unfold IsDs
 refine⟨_,_,rfl,by unfold IsD;rfl,?_⟩
 unfold IsDs
 refine⟨_,_,rfl,by unfold IsD;rfl,?_⟩
 unfold IsDs
 exact⟨_,_,rfl,by unfold IsD;rfl,by unfold IsDs;rfl⟩
theorem Yw6 {H:Hp}{a:Addr} (h:H a=some (.tup [.str "picture"])):IsT H .pic (.ref a):=by
 unfold IsT Zx5 IsD
 refine⟨a,_,rfl,Zp1 h,?_⟩
 unfold IsDs
 exact⟨_,_,rfl,by unfold IsD;rfl,by unfold IsDs;rfl⟩
theorem Xq1 {H:Hp}{a:Addr}{r c:Nat}{t0 t1:Tree}{v0 v1:V} (h:H a=some (.tup [.str "try",.int (r:Nat),.int (c:Nat),v0,v1])) (h0:IsT H t0 v0) (h1:IsT H t1 v1):IsT H (.tri r c t0 t1) (.ref a):=by
 unfold IsT Zx5 IsD
 refine⟨a,_,rfl,Zp1 h,?_⟩
 unfold IsDs
 refine⟨_,_,rfl,by unfold IsD;rfl,?_⟩
 unfold IsDs
 refine⟨_,_,rfl,by unfold IsD;rfl,?_⟩
 unfold IsDs
 refine⟨_,_,rfl,by unfold IsD;rfl,?_⟩
 unfold IsDs
 refine⟨_,_,rfl,h0,?_⟩
 unfold IsDs
 exact⟨_,_,rfl,h1,by unfold IsDs;rfl⟩
def FcAt (H:Hp) (f:Fc) (u:V):Prop:=∃q sh,u=.ref q∧H q=some (.tup [.int (f.1:Nat),.int (f.2.1:Nat),.int f.2.2.1,sh])∧IsT H (.shut f.2.2.2.1 f.2.2.2.2) sh
def Qi1 (H:Hp) (fs:List Fc) (us:List V):Prop:=us.length=fs.length∧∀(i:Nat) (f:Fc),fs[i]?=some f→∃u,us[i]?=some u∧FcAt H f u
theorem FcAt.mono {H H':Hp} (k:TupK H H') {f:Fc}{u:V} (h:FcAt H f u):FcAt H' f u:=by
 obtain⟨q,sh,e,hq,ht⟩:=h
 exact⟨q,sh,e,k _ _ hq,ht.mono k⟩
theorem Qi1.mono {H H':Hp} (k:TupK H H') {fs:List Fc}{us:List V} (h:Qi1 H fs us):Qi1 H' fs us:=⟨h.1,fun i f e=>by
 obtain⟨u,h1,h2⟩:=h.2 i f e
 exact⟨u,h1,h2.mono k⟩⟩
theorem Qi1.nil (H:Hp):Qi1 H [] []:=⟨rfl,fun i f e=>by simp at e⟩
theorem Qi1.snoc {H:Hp}{fs:List Fc}{us:List V} (h:Qi1 H fs us) {f:Fc}{u:V} (hu:FcAt H f u):Qi1 H (fs++[f]) (us++[u]):=by
 refine⟨by rw[List.length_append,List.length_append,h.1];rfl,fun i g e=>?_⟩
 by_cases hi:i<fs.length
 ·rw[List.getElem?_append_left hi]at e
  obtain⟨x,h1,h2⟩:=h.2 i g e
  exact⟨x,by rw[List.getElem?_append_left (by rw[h.1];exact hi)];exact h1,h2⟩
 ·rw[List.getElem?_append_right (by omega)]at e
  have h0:i-fs.length=0:=by
   have:=(List.getElem?_eq_some_iff.mp e).1
   simp at this
   omega
  rw[h0]at e
  cases e
  exact⟨u,by rw[List.getElem?_append_right (by rw[h.1];omega),h.1,h0];rfl,hu⟩
variable {P:Program}{w:World}{K:PySem.W.Frag}{mg:Str→Option Value}{base:Heap}
def Xv2:Sp:=fun vs H Q _=>∃(lf:Addr) (us:List V) (fs:List Fc) (v:V) (t:Tree),vs=[.ref lf,v]∧H lf=some (.lst us)∧Qi1 H fs us∧(∀f∈fs,f.2.2.1=0∨f.2.2.1=1)∧IsT H t v∧∀v' H',Same H H'→IsT H' (Zj8 fs t) v'→Q v' H'
theorem Qg0:FnScope ["forced","inner","tree","row","column","value","shut"] ["forced","inner"] (Qz0 Qd1):=⟨rfl,rfl,rfl,by decide +kernel,rfl,by decide +kernel,by decide +kernel⟩
theorem Xq2 {f:Addr}{fd:FuncData} (F:Fun K "with_forced" "with_forced" Qd1 f fd) (B:Bt mg):FnOk P w K mg base CX0 1 f fd ["forced","inner"] Xv2:=by
 refine F.ok Qg0 (fun vs H Q E h=>?_) (fun cdv A outer s H vs Q E hr h=>?_)
 ·obtain⟨lf,us,fs,v,t,rfl,_⟩:=h
  rfl
 ·obtain⟨lf,us,fs,v,t,rfl,hlf,hfs,hbit,ht,k⟩:=h
  refine⟨_,(Qq4 (Qz6 (i:=2) Qg0.nd rfl (Or.inl rfl) (pv 1))
   (Qq4 (Qf3 PassesOwn.never rfl (Yv1 K rfl B.reversed (Qq0 (pv 0) Qq3)) (Zg2 K 4 rfl (Qh9 (Qx3 (i:=3) Qg0.nd rfl (Or.inl rfl)) (Qh9 (Qx3 (i:=4) Qg0.nd rfl (Or.inl rfl)) (Qh9 (Qx3 (i:=5) Qg0.nd rfl (Or.inl rfl)) (Qh9 (Qx3 (i:=6) Qg0.nd rfl (Or.inl rfl)) Zy5)))))
   (Qq8 (Qk1 (Qz8 Qb5 (pv 5) Qq6 (Qx2 _))
   (Qq8 (Qz6 (i:=2) Qg0.nd rfl (Or.inl rfl) (Qy9 (Qq0 Qy7 (Qq0 (pv 3) (Qq0 (pv 4) (Qq0 (pv 2) (Qq0 (pv 6) Qq3))))))))
   (Qq8 (Qz6 (i:=2) Qg0.nd rfl (Or.inl rfl) (Qy9 (Qq0 Qy7 (Qq0 (pv 3) (Qq0 (pv 4) (Qq0 (pv 6) (Qq0 (pv 2) Qq3)))))))))))
   (Qq8 (Qz9 (pv 2))))),?_⟩
  refine⟨_,rfl,_,rfl,lf,us,rfl,SqL.of hlf,Yv2 (K:=K) (a:=lf) (xs:=us) (fun i σ H1=>∃(v1:V) (o3 o4 o5 o6:Option V),σ=[some (.ref lf),some v,some v1,o3,o4,o5,o6]∧Same H H1∧IsT H1 (Zj8 (fs.drop (us.length-i)) t) v1) ?_ ?_ ?_ ?_⟩
  ·refine⟨v,none,none,none,none,rfl,Same.refl H,?_⟩
   rw[Nat.sub_zero,hfs.1,List.drop_length]
   exact ht
  ·rintro i σ H1 _ ⟨v1,o3,o4,o5,o6,rfl,s1,_⟩
   exact SqL.of (s1 _ _ hlf)
  ·intro Pw mk
   rintro i x σ H1 hi hx ⟨v1,o3,o4,o5,o6,rfl,s1,h1⟩
   have hj:us.length-1-i<fs.length:=by rw[←hfs.1];omega
   obtain⟨u,hu,q,sh,rfl,hq,hsh⟩:=hfs.2 _ _ (List.getElem?_eq_getElem hj)
   rw[hx]at hu
   cases hu
   have hz:=hbit _ (List.getElem_mem hj)
   have ed:fs.drop (us.length-(i+1))=fs[us.length-1-i]::fs.drop (us.length-i):=by
    rw[show us.length-(i+1)=us.length-1-i by omega,List.drop_eq_getElem_cons hj,show us.length-1-i+1=us.length-i by omega]
   generalize fs[us.length-1-i]=g at hq hsh hz ed
   obtain⟨r,c,z,l⟩:=g
   have hsh1:IsT H1 (.shut l.1 l.2) sh:=hsh.mono (TupK.of s1)
   refine⟨q,_,rfl,SqT.of (s1 _ _ hq),rfl,_,_,rfl,_,_,rfl,_,_,rfl,_,_,rfl,rfl,?_⟩
   refine⟨_,rfl,rfl,_,rfl,?_⟩
   rcases hz with hz|hz
   ·replace hz:z=0:=hz
    subst hz
    refine iteT ⟨_,rfl,_,rfl,_,rfl,_,rfl,(by show 5≤sizeLine;decide),fun p hp=>mk _ _ _ ⟨_,_,_,_,_,rfl,s1.trans (Qq5 hp),?_⟩⟩
    rw[ed]
    exact Xq1 Qq1 (h1.mono (TupK.of (Qq5 hp))) (hsh1.mono (TupK.of (Qq5 hp)))
   ·replace hz:z=1:=hz
    subst hz
    refine iteF ⟨_,rfl,_,rfl,_,rfl,_,rfl,(by show 5≤sizeLine;decide),fun p hp=>mk _ _ _ ⟨_,_,_,_,_,rfl,s1.trans (Qq5 hp),?_⟩⟩
    rw[ed]
    exact Xq1 Qq1 (hsh1.mono (TupK.of (Qq5 hp))) (h1.mono (TupK.of (Qq5 hp)))
  ·rintro σ H1 ⟨v1,o3,o4,o5,o6,rfl,s1,h1⟩
   rw[Nat.sub_self,List.drop_zero]at h1
   exact⟨_,rfl,k v1 H1 s1 h1⟩
end
section
def Qq2 (h i:Nat):Nat×Nat:=if i<h then (0,i) else (1,i-h)
theorem Qm1 {h w i:Nat} (hi:i<h+w):LOk h w (Qq2 h i):=by
 unfold Qq2
 split
 ·exact .inl ⟨rfl,by assumption⟩
 ·exact .inr ⟨rfl,by show i-h<w;omega⟩
theorem Qb7 {h r:Nat} (hr:r<h):Qq2 h r=(0,r):=by unfold Qq2;rw[if_pos hr]
theorem Qa6 (h c:Nat):Qq2 h (h+c)=(1,c):=by unfold Qq2;rw[if_neg (by omega),Nat.add_sub_cancel_left]
theorem Za6 {h w i j:Nat} (hi:i<h+w) (hj:j<h+w) (e:Qq2 h i=Qq2 h j):i=j:=by
 unfold Qq2 at e
 split at e<;>split at e<;>simp only[Prod.mk.injEq]at e<;>omega
def Qk3 (h w:Nat) (v:View) (x:Int):List Nat:=(List.range (h+w)).map fun i=>Qz3 (Qq7 v (Qq2 h i).1 (Qq2 h i).2) x
theorem Qm2 (h w:Nat) (v:View) (x:Int):(Qk3 h w v x).length=h+w:=by unfold Qk3;rw[List.length_map,List.length_range]
theorem Qp2 {h w:Nat}{v:View}{x:Int}{i:Nat} (hi:i<h+w):(Qk3 h w v x)[i]?=some (Qz3 (Qq7 v (Qq2 h i).1 (Qq2 h i).2) x):=by
 unfold Qk3
 rw[List.getElem?_map,List.getElem?_range hi]
 rfl
theorem Zw7 {h w:Nat}{v:View} (o:VOk h w v) {l:Nat×Nat} (hl:LOk h w l) (x:Int) (p:Nat):(Qz3 (Qq7 v l.1 l.2) x).testBit p=decide (p<lenL h w l∧Qz5 v (posL l p).1 (posL l p).2=some x):=by
 rw[Qi6]
 by_cases hp:p<lenL h w l
 ·rw[Qw9 o hl hp]
  by_cases q:Qz5 v (posL l p).1 (posL l p).2=some x
  ·rw[decide_eq_true q,decide_eq_true ⟨hp,q⟩]
  ·rw[decide_eq_false q,decide_eq_false fun z=>q z.2]
 ·have q:¬(Qq7 v l.1 l.2).getD p none=some x:=by
   rw[List.getD_eq_getElem?_getD,List.getElem?_eq_none (by rw[Qv9 o hl];omega)]
   exact fun z=>nomatch z
  rw[decide_eq_false q,decide_eq_false fun z=>hp z.1]
theorem Xg7 {h w:Nat}{l:Nat×Nat} (hl:LOk h w l) {p r c:Nat}:posL l p=(r,c)↔(l=(0,r)∧p=c)∨(l=(1,c)∧p=r):=by
 obtain⟨a,b⟩:=l
 rcases hl with ⟨h1,h2⟩|⟨h1,h2⟩
 ·replace h1:a=0:=h1
  subst h1
  show ((b,p):Nat×Nat)=(r,c)↔_
  simp only[Prod.mk.injEq]
  constructor
  ·rintro⟨e1,e2⟩;exact .inl ⟨⟨by trivial,e1⟩,e2⟩
  ·rintro(⟨⟨_,e1⟩,e2⟩|⟨⟨e,_⟩,_⟩)
   ·exact⟨e1,e2⟩
   ·cases e
 ·replace h1:a=1:=h1
  subst h1
  show ((p,b):Nat×Nat)=(r,c)↔_
  simp only[Prod.mk.injEq]
  constructor
  ·rintro⟨e1,e2⟩;exact .inr ⟨⟨by trivial,e2⟩,e1⟩
  ·rintro(⟨⟨e,_⟩,_⟩|⟨⟨_,e1⟩,e2⟩)
   ·cases e
   ·exact⟨e2,e1⟩
theorem Xg8 {h w:Nat}{v:View} (o:VOk h w v) {r c:Nat}{z x:Int} (hz:z=0∨z=1) (hr:r<h) (hc:c<w) (op:Qz5 v r c=none) {l:Nat×Nat} (hl:LOk h w l) :
  Qz3 (Qq7 (setC v r c (some z)) l.1 l.2) x=if x=z then (if l=(0,r) then Qz3 (Qq7 v l.1 l.2) x|||2^c else if l=(1,c) then Qz3 (Qq7 v l.1 l.2) x|||2^r else Qz3 (Qq7 v l.1 l.2) x) else Qz3 (Qq7 v l.1 l.2) x:=by
 have hb:(some z:Option Int)=none∨(some z:Option Int)=some 0∨(some z:Option Int)=some 1:=by rcases hz with rfl|rfl<;>simp
 have o':=o.setC (j:=c) hr hb
 apply Nat.eq_of_testBit_eq
 intro p
 rw[Zw7 o' hl,Qk8 o hr hc]
 have key:(p<lenL h w l∧(if (posL l p).1=r∧(posL l p).2=c then some z else Qz5 v (posL l p).1 (posL l p).2)=some x)↔(p<lenL h w l∧Qz5 v (posL l p).1 (posL l p).2=some x)∨(x=z∧p<lenL h w l∧posL l p=(r,c)):=by
  by_cases e:posL l p=(r,c)
  ·rw[e,if_pos ⟨rfl,rfl⟩,op]
   constructor
   ·rintro⟨a,b⟩;exact .inr ⟨(Option.some.inj b).symm,a,rfl⟩
   ·rintro(⟨_,b⟩|⟨a,b,_⟩)
    ·cases b
    ·exact⟨b,by rw[a]⟩
  ·rw[if_neg (fun q=>e (Prod.ext q.1 q.2))]
   constructor
   ·exact .inl
   ·rintro(q|⟨_,_,q⟩)
    ·exact q
    ·exact absurd q e
 rw[Bool.eq_iff_iff,decide_eq_true_eq,key]
 have base:(Qz3 (Qq7 v l.1 l.2) x).testBit p=true↔(p<lenL h w l∧Qz5 v (posL l p).1 (posL l p).2=some x):=by rw[Zw7 o hl,decide_eq_true_eq]
 rw[←base]
 by_cases hx:x=z
 ·rw[if_pos hx]
  by_cases e1:l=(0,r)
  ·rw[if_pos e1,Nat.testBit_or,Bool.or_eq_true,Nat.testBit_two_pow,decide_eq_true_eq]
   refine or_congr Iff.rfl ?_
   rw[Xg7 hl,e1,show lenL h w (0,r)=w from rfl]
   constructor
   ·rintro⟨_,_,q|q⟩
    ·exact q.2.symm
    ·have:=congrArg Prod.fst q.1;cases this
   ·intro q;subst q;exact⟨hx,hc,.inl ⟨rfl,rfl⟩⟩
  ·rw[if_neg e1]
   by_cases e2:l=(1,c)
   ·rw[if_pos e2,Nat.testBit_or,Bool.or_eq_true,Nat.testBit_two_pow,decide_eq_true_eq]
    refine or_congr Iff.rfl ?_
    rw[Xg7 hl,e2,show lenL h w (1,c)=h from rfl]
    constructor
    ·rintro⟨_,_,q|q⟩
     ·have:=congrArg Prod.fst q.1;cases this
     ·exact q.2.symm
    ·intro q;subst q;exact⟨hx,hr,.inr ⟨rfl,rfl⟩⟩
   ·rw[if_neg e2]
    refine⟨fun q=>q.elim (fun a=>a) fun a=>?_,.inl⟩
    rcases (Xg7 hl).mp a.2.2 with q|q
    ·exact absurd q.1 e1
    ·exact absurd q.1 e2
 ·rw[if_neg hx]
  exact⟨fun q=>q.elim (fun a=>a) fun a=>absurd a.1 hx,.inl⟩
theorem Xl4 {h w:Nat}{v:View} (o:VOk h w v) {r c:Nat}{z:Int} (hz:z=0∨z=1) (hr:r<h) (hc:c<w) (op:Qz5 v r c=none) :
  Qk3 h w (setC v r c (some z)) z=((Qk3 h w v z).set r (Qz3 (Qq7 v 0 r) z|||2^c)).set (h+c) (Qz3 (Qq7 v 1 c) z|||2^r):=by
 apply List.ext_getElem?
 intro i
 by_cases hi:i<h+w
 ·rw[Qp2 hi,Xg8 o hz hr hc op (Qm1 hi),if_pos rfl]
  by_cases e2:i=h+c
  ·subst e2
   rw[List.getElem?_set_self (by rw[List.length_set,Qm2];omega),Qa6,if_neg (by simp),if_pos rfl]
  ·rw[List.getElem?_set_ne (Ne.symm e2)]
   have n2:Qq2 h i≠(1,c):=fun q=>e2 (Za6 (w:=w) hi (by omega) (q.trans (Qa6 h c).symm))
   by_cases e1:i=r
   ·subst e1
    rw[List.getElem?_set_self (by rw[Qm2];omega),Qb7 hr,if_pos rfl]
   ·rw[List.getElem?_set_ne (Ne.symm e1),Qp2 hi]
    have n1:Qq2 h i≠(0,r):=fun q=>e1 (Za6 (w:=w) hi (by omega) (q.trans (Qb7 hr).symm))
    rw[if_neg n1,if_neg n2]
 ·rw[List.getElem?_eq_none (by rw[Qm2];omega),List.getElem?_eq_none (by rw[List.length_set,List.length_set,Qm2];omega)]
theorem Zc6 {h w:Nat}{v:View} (o:VOk h w v) {r c:Nat}{z x:Int} (hz:z=0∨z=1) (hx:x≠z) (hr:r<h) (hc:c<w) (op:Qz5 v r c=none):Qk3 h w (setC v r c (some z)) x=Qk3 h w v x:=by
 unfold Qk3
 apply List.map_congr_left
 intro i hi
 rw[Xg8 o hz hr hc op (Qm1 (List.mem_range.mp hi)),if_neg hx]
theorem Xm5 {h w:Nat}{v:View} (o:VOk h w v) {l:Nat×Nat} (hl:LOk h w l) (x:Int):Qz3 (Qq7 v l.1 l.2) x<2^lenL h w l:=by
 unfold Qz3
 have:=Ze8 ((Qq7 v l.1 l.2).map fun o=>if o=some x then (1:Int) else 0)
 rw[List.length_map,Qv9 o hl]at this
 exact this
end
section
variable {P:Program}{w:World}{K:PySem.W.Frag}{mg:Str→Option Value}{base:Heap}{C:Addr}
theorem Qw4 {H H1 H2:Hp}{as:List Addr} (k:Qz2 H H1 as) (k2:Qz2 H1 H2 as):Qz2 H H2 as:=fun b o h n=>k2 _ _ (k b o h n) n
theorem Qg2 {H H1:Hp}{as:List Addr} (s:Same H H1):Qz2 H H1 as:=fun b o h _=>s b o h
theorem Qn3 {H:Hp}{a:Addr}{o:HO}{as:List Addr} (h:a∈as):Qz2 H (upd H a o) as:=fun b u q n=>by rw[Qz1 (fun e=>n (by rw[e];exact h))];exact q
theorem Qu0 {H H1:Hp}{as bs:List Addr} (k:Qz2 H H1 as) (s:∀a∈as,a∈bs):Qz2 H H1 bs:=fun b o h n=>k b o h fun z=>n (s b z)
def mV (ns:List Nat):List V:=ns.map fun n:Nat=>V.int n
theorem Qf4 (ns:List Nat):(mV ns).length=ns.length:=by unfold mV;rw[List.length_map]
theorem Zq5 {ns:List Nat}{i n:Nat} (h:ns[i]?=some n):(mV ns)[i]?=some (V.int (n:Nat)):=by unfold mV;rw[List.getElem?_map,h];rfl
theorem Xi2 (ns:List Nat) (i n:Nat):(mV ns).set i (V.int (n:Nat))=mV (ns.set i n):=by unfold mV;rw[List.map_set]
theorem Zg7 {n i:Nat} (h:i<n):ixN n (i:Nat)=some i:=by
 unfold ixN
 rw[if_pos (by omega),if_pos (by omega),Int.toNat_natCast]
structure TT (K:PySem.W.Frag) (C:Addr):Prop where
 cl:Cls K C
 nR:Qg5 K C "rows"
 nF:Qg5 K C "full"
 nE:Qg5 K C "empty"
def Qi2 (h:Nat) (lf le:Addr):List (Str×V):=putF "empty" (.ref le) (putF "full" (.ref lf) (putF "rows" (.int (h:Nat)) []))
theorem kRF:¬(("rows" : Str) = "full"):=by decide +kernel
theorem kRE:¬(("rows" : Str) = "empty"):=by decide +kernel
theorem kFE:¬(("full" : Str) = "empty"):=by decide +kernel
theorem Zv3 (h:Nat) (lf le:Addr):(Qi2 h lf le).lookup ("empty" : Str)=some (.ref le):=by unfold Qi2;rw[Qq9,if_pos rfl]
theorem Zj9 (h:Nat) (lf le:Addr):(Qi2 h lf le).lookup ("full" : Str)=some (.ref lf):=by unfold Qi2;rw[Qq9,if_neg kFE,Qq9,if_pos rfl]
theorem Zg8 (h:Nat) (lf le:Addr):(Qi2 h lf le).lookup ("rows" : Str)=some (.int (h:Nat)):=by unfold Qi2;rw[Qq9,if_neg kRE,Qq9,if_neg kRF,Qq9,if_pos rfl]
theorem Zq6 (h:Nat) (lf le:Addr) {m:Str} (h1:¬m = "empty") (h2:¬m = "full") (h3:¬m = "rows"):(Qi2 h lf le).lookup m=none:=by unfold Qi2;rw[Qq9,if_neg h1,Qq9,if_neg h2,Qq9,if_neg h3];rfl
structure TdP (C:Addr) (H:Hp) (c lf le:Addr) (h w:Nat) (v:View):Prop where
 ins:∃dx,H c=some (.ins C dx (Qi2 h lf le))
 fl:H lf=some (.lst (mV (Qk3 h w v 1)))
 el:H le=some (.lst (mV (Qk3 h w v 0)))
 ne:lf≠le
theorem TdP.keep {H H':Hp}{c lf le:Addr}{h w:Nat}{v:View}{M:List Addr} (p:TdP C H c lf le h w v) (k:Qz2 H H' M) (n1:c∉M) (n2:lf∉M) (n3:le∉M):TdP C H' c lf le h w v:=by
 obtain⟨dx,hc⟩:=p.ins
 exact⟨⟨dx,k _ _ hc n1⟩,k _ _ p.fl n2,k _ _ p.el n3,p.ne⟩
theorem TdP.mono {H H':Hp}{c lf le:Addr}{h w:Nat}{v:View} (p:TdP C H c lf le h w v) (s:Same H H'):TdP C H' c lf le h w v:=p.keep (Qg2 s) (M:=[]) (by simp) (by simp) (by simp)
theorem TdP.cf {H:Hp}{c lf le:Addr}{h w:Nat}{v:View} (p:TdP C H c lf le h w v):c≠lf∧c≠le:=by
 obtain⟨dx,hc⟩:=p.ins
 exact⟨Zw0 hc p.fl (by intro z;cases z),Zw0 hc p.el (by intro z;cases z)⟩
def Qi7 (C:Addr):Sp:=fun vs H Q _=>∃(x dx a b:Addr) (h:Nat) (F E:List V),vs=[.ref x,.int (h:Nat),.ref a,.ref b]∧H x=some (.ins C dx [])∧H a=some (.lst F)∧H b=some (.lst E) ∧
 ∀H' lf le,(∀y o,H y=some o→y≠x→H' y=some o)→H lf=none→H le=none→lf≠le→H' x=some (.ins C dx (Qi2 h lf le))→H' lf=some (.lst F)→H' le=some (.lst E)→Q .non H'
theorem Zs5:FnScope ["self","rows","full","empty"] ["self","rows","full","empty"] (Qz0 Qp8):=⟨rfl,rfl,rfl,by decide +kernel,rfl,by decide +kernel,by decide +kernel⟩
theorem Zs6 {f:Addr}{fd:FuncData} (F:Fun K "__init__" "Told.__init__" Qp8 f fd) (B:Bt mg) (T:TT K C):FnOk P w K mg base CX0 1 f fd ["self","rows","full","empty"] (Qi7 C):=by
 refine F.ok Zs5 (fun vs H Q E h=>?_) (fun cdv A outer s H vs Q E hr h=>?_)
 ·obtain⟨x,dx,a,b,h,F,E',rfl,_⟩:=h
  rfl
 ·obtain⟨x,dx,a,b,h,Fs,Es,rfl,hx,ha,hb,k⟩:=h
  refine⟨_,(Qq4 (Ql9 (pv 0) (pv 1) rfl)
   (Qq4 (Ql9 (pv 0) (Qv0 (Qb6 K) rfl B.list Qm4 (Qq0 (pv 2) Qq3)) rfl)
   (Qq8 (Ql9 (pv 0) (Qv0 (Qb6 K) rfl B.list Qm4 (Qq0 (pv 3) Qq3)) rfl)))),?_⟩
  have nxa:a≠x:=Zw0 ha hx (by intro z;cases z)
  have nxb:b≠x:=Zw0 hb hx (by intro z;cases z)
  refine⟨_,rfl,_,rfl,x,C,dx,[],rfl,hx,T.cl,T.nR,(by show 0<1000;decide),?_⟩
  refine⟨_,rfl,a,_,rfl,.inl (SqL.of (by rw[Qz1 nxa];exact ha)),fun lf hlf=>?_⟩
  have n1:lf≠x:=fun e=>by rw[e,Qq1]at hlf;cases hlf
  have hlf0:H lf=none:=by rw[Qz1 n1]at hlf;exact hlf
  refine⟨_,rfl,x,C,dx,_,rfl,(by rw[Qz1 (Ne.symm n1),Qq1]),T.cl,T.nF,(by show 1<1000;decide),?_⟩
  have nfa:b≠lf:=Qk4 hb hlf0
  refine⟨_,rfl,b,_,rfl,.inl (SqL.of (by rw[Qz1 nxb,Qz1 nfa,Qz1 nxb];exact hb)),fun le hle=>?_⟩
  have n2:le≠x:=fun e=>by rw[e,Qq1]at hle;cases hle
  have n3:le≠lf:=fun e=>by rw[e,Qz1 n1,Qq1]at hle;cases hle
  have hle0:H le=none:=by rw[Qz1 n2,Qz1 n3,Qz1 n2]at hle;exact hle
  refine⟨_,rfl,x,C,dx,_,rfl,(by rw[Qz1 (Ne.symm n2),Qq1]),T.cl,T.nE,(by show 2<1000;decide),?_⟩
  refine k _ lf le (fun y o hy ny=>?_) hlf0 hle0 (Ne.symm n3) Qq1 ?_ ?_
  ·rw[Qz1 ny,Qz1 (Qk4 hy hle0),Qz1 ny,Qz1 (Qk4 hy hlf0),Qz1 ny]
   exact hy
  ·rw[Qz1 n1,Qz1 (Ne.symm n3),Qz1 n1,Qq1]
  ·rw[Qz1 n2,Qq1]
def Zv4 (C:Addr):Sp:=fun vs H Q _=>∃(c lf le:Addr) (h w:Nat) (v:View) (r cc:Nat) (z:Int),vs=[.ref c,.int (r:Nat),.int (cc:Nat),.int z]∧TdP C H c lf le h w v∧VOk h w v∧(z=0∨z=1)∧r<h∧cc<w∧Qz5 v r cc=none∧h≤4∧w≤4 ∧
 ∀H',Qz2 H H' [lf,le]→TdP C H' c lf le h w (setC v r cc (some z))→Q .non H'
theorem Xi3 (m c:Nat):Builtin.bitOr ((m:Nat):Int) ((1:Int)*2^(((c:Nat):Int)).toNat)=((m|||2^c:Nat):Int):=by
 rw[Int.toNat_natCast,Int.one_mul,show (2:Int)^c=((2^c:Nat):Int) by simp,Zj7]
theorem Zu0:FnScope ["self","row","column","value","marks"] ["self","row","column","value"] (Qz0 Qr6):=⟨rfl,rfl,rfl,by decide +kernel,rfl,by decide +kernel,by decide +kernel⟩
theorem Xg9 {f:Addr}{fd:FuncData} (F:Fun K "tell" "Told.tell" Qr6 f fd) (B:Bt mg) (T:TT K C):FnOk P w K mg base CX0 1 f fd ["self","row","column","value"] (Zv4 C):=by
 refine F.ok Zu0 (fun vs H Q E h=>?_) (fun cdv A outer s H vs Q E hr h=>?_)
 ·obtain⟨c,lf,le,h,w,v,r,cc,z,rfl,_⟩:=h
  rfl
 ·obtain⟨c,lf,le,h,w',v,r,cc,z,rfl,tp,vo,hz,hrh,hcw,op,hh,hw,k⟩:=h
  refine⟨_,(Qs4 (Qz6 (i:=4) Zu0.nd rfl (Or.inl rfl) (Zk1 (Qz8 Qb5 (pv 3) Qq6 (Qx2 _)) (Qx4 (pv 0) rfl) (Qx4 (pv 0) rfl)))
   (Qq4 (Zy7 (Qz7 Zh5 (Qx1 (Qk0 K) (pv 4) (pv 1) (fun _ _=>rfl)) (Qz7 Zf0 Qq6 (pv 2))) (Zy6 (pv 4) (pv 1) Qo0))
   (Qq8 (Zy7 (Qz7 Zh5 (Qx1 (Qk0 K) (pv 4) (Qz7 Qy1 (Qx4 (pv 0) rfl) (pv 2)) (fun _ _=>rfl)) (Qz7 Zf0 Qq6 (pv 1))) (Zy6 (pv 4) (Qz7 Qy1 (Qx4 (pv 0) rfl) (pv 2)) Qo0))))),?_⟩
  obtain⟨dx,hc⟩:=tp.ins
  obtain⟨ncf,nce⟩:=tp.cf
  refine⟨fun σ' H'=>H'=H∧∃lm,σ'=[some (.ref c),some (.int (r:Nat)),some (.int (cc:Nat)),some (.int z),some (.ref lm)]∧H lm=some (.lst (mV (Qk3 h w' v z)))∧c≠lm ∧
   ∀H'',H'' lm=some (.lst (mV (Qk3 h w' (setC v r cc (some z)) z)))→(∀b o,H b=some o→b≠lm→H'' b=some o)→Q .non H'',?_,?_⟩
  ·refine⟨_,rfl,rfl,_,rfl,?_⟩
   rcases hz with rfl|rfl
   ·refine iteF ⟨_,rfl,c,C,dx,_,_,rfl,hc,T.cl,T.nE,Zv3 _ _ _,rfl,le,rfl,tp.el,nce,fun H'' h1 h2=>k H'' (fun b o hb n=>h2 b o hb fun e=>n (by rw[e];simp)) ⟨⟨dx,h2 _ _ hc nce⟩,?_,h1,tp.ne⟩⟩
    rw[Zc6 vo (.inl rfl) (by decide) hrh hcw op]
    exact h2 _ _ tp.fl tp.ne
   ·refine iteT ⟨_,rfl,c,C,dx,_,_,rfl,hc,T.cl,T.nF,Zj9 _ _ _,rfl,lf,rfl,tp.fl,ncf,fun H'' h1 h2=>k H'' (fun b o hb n=>h2 b o hb fun e=>n (by rw[e];simp)) ⟨⟨dx,h2 _ _ hc ncf⟩,h1,?_,tp.ne⟩⟩
    rw[Zc6 vo (.inr rfl) (by decide) hrh hcw op]
    exact h2 _ _ tp.el (Ne.symm tp.ne)
  ·rintro σ' H' ⟨rfl,lm,rfl,hlm,ncm,kk⟩
   have hlen:(mV (Qk3 h w' v z)).length=h+w':=by rw[Qf4,Qm2]
   have g1:(Qk3 h w' v z)[r]?=some (Qz3 (Qq7 v 0 r) z):=by rw[Qp2 (by omega),Qb7 hrh]
   have g2:(Qk3 h w' v z)[h+cc]?=some (Qz3 (Qq7 v 1 cc) z):=by rw[Qp2 (by omega),Qa6]
   have eA:(mV (Qk3 h w' v z)).set r (V.int (Builtin.bitOr ((Qz3 (Qq7 v 0 r) z:Nat):Int) ((1:Int)*2^(((cc:Nat):Int)).toNat)))=mV ((Qk3 h w' v z).set r (Qz3 (Qq7 v 0 r) z|||2^cc)):=by rw[Xi3,Xi2]
   have e1:((h:Nat):Int)+((cc:Nat):Int)=((h+cc:Nat):Int):=by omega
   refine⟨_,rfl,_,rfl,lm,_,_,_,rfl,rfl,SqL.of hlm,Qx7 (Zq5 g1),_,rfl,_,_,rfl,rfl,⟨by omega,by omega,by decide⟩,_,_,rfl,rfl,_,rfl,_,rfl,lm,_,_,r,rfl,rfl,hlm,Zg7 (by rw[hlen];omega),?_⟩
   have hA:(upd H' lm (.lst ((mV (Qk3 h w' v z)).set r (V.int (Builtin.bitOr ((Qz3 (Qq7 v 0 r) z:Nat):Int) ((1:Int)*2^(((cc:Nat):Int)).toNat)))))) lm=some (.lst (mV ((Qk3 h w' v z).set r (Qz3 (Qq7 v 0 r) z|||2^cc)))):=by rw[Qq1,eA]
   have hcA:(upd H' lm (.lst ((mV (Qk3 h w' v z)).set r (V.int (Builtin.bitOr ((Qz3 (Qq7 v 0 r) z:Nat):Int) ((1:Int)*2^(((cc:Nat):Int)).toNat)))))) c=some (.ins C dx (Qi2 h lf le)):=by rw[Qz1 ncm];exact hc
   have g3:((Qk3 h w' v z).set r (Qz3 (Qq7 v 0 r) z|||2^cc))[h+cc]?=some (Qz3 (Qq7 v 1 cc) z):=by rw[List.getElem?_set_ne (by omega)];exact g2
   refine⟨_,rfl,_,rfl,c,C,dx,_,_,rfl,hcA,T.cl,T.nR,Zg8 _ _ _,_,rfl,_,_,rfl,rfl,lm,_,_,_,rfl,rfl,SqL.of hA,(by rw[e1];exact Qx7 (Zq5 g3)),_,rfl,_,_,rfl,rfl,⟨by omega,by omega,by decide⟩,_,_,rfl,rfl,_,rfl,_,rfl,c,C,dx,_,_,rfl,hcA,T.cl,T.nR,Zg8 _ _ _,_,rfl,_,_,rfl,rfl,lm,_,_,h+cc,rfl,rfl,hA,(by rw[e1];exact Zg7 (by rw[Qf4,List.length_set,Qm2];omega)),?_⟩
   refine kk _ ?_ fun b o hb n=>by rw[Qz1 n,Qz1 n];exact hb
   have eB:(mV ((Qk3 h w' v z).set r (Qz3 (Qq7 v 0 r) z|||2^cc))).set (h+cc) (V.int (Builtin.bitOr ((Qz3 (Qq7 v 1 cc) z:Nat):Int) ((1:Int)*2^(((r:Nat):Int)).toNat)))=mV (((Qk3 h w' v z).set r (Qz3 (Qq7 v 0 r) z|||2^cc)).set (h+cc) (Qz3 (Qq7 v 1 cc) z|||2^r)):=by rw[Xi3,Xi2]
   rw[Qq1,Xl4 vo hz hrh hcw op]
   exact congrArg (fun l=>some (HO.lst l)) eB
end
section
variable {P:Program}{w:World}{K:PySem.W.Frag}{mg:Str→Option Value}{base:Heap}{C:Addr}
theorem Xi4 {H:Hp}{x dx a b:Addr}{h:Nat}{F E':List V}{Q:VK}{E:XK} (hx:H x=none) (hdx:H dx=none) (ha:H a=some (.lst F)) (hb:H b=some (.lst E'))
  (k:∀H' lf le,Same H H'→H lf=none→H le=none→lf≠le→H' x=some (.ins C dx (Qi2 h lf le))→H' lf=some (.lst F)→H' le=some (.lst E')→Q .non H') :
  Qi7 C [.ref x,.int (h:Nat),.ref a,.ref b] (upd (upd H dx (.own x)) x (.ins C dx [])) Q E:=by
 have sm:Same H (upd (upd H dx (.own x)) x (.ins C dx [])):=Qw6 (Qq5 hdx) hx
 refine⟨x,dx,a,b,h,F,E',rfl,Qq1,sm _ _ ha,sm _ _ hb,fun H' lf le h1 h2 h3 h4 h5 h6 h7=>k H' lf le (fun y o e=>h1 y o (sm _ _ e) (fun z=>by rw[z,hx]at e;cases e)) (sm.free h2) (sm.free h3) h4 h5 h6 h7⟩
def Zg9 (C:Addr):Sp:=fun vs H Q _=>∃(c lf le:Addr) (h w:Nat) (v:View) (r cc:Nat) (z:Int),vs=[.ref c,.int (r:Nat),.int (cc:Nat),.int z]∧TdP C H c lf le h w v∧VOk h w v∧(z=0∨z=1)∧r<h∧cc<w∧Qz5 v r cc=none∧h≤4∧w≤4 ∧
 ∀H' c' lf' le',Same H H'→H c'=none→H lf'=none→H le'=none→TdP C H' c' lf' le' h w (setC v r cc (some z))→Q (.ref c') H'
theorem Zz4:FnScope ["self","row","column","value","twin"] ["self","row","column","value"] (Qz0 Qb2):=⟨rfl,rfl,rfl,by decide +kernel,rfl,by decide +kernel,by decide +kernel⟩
theorem Zl9 {f:Addr}{fd:FuncData} (F:Fun K "twin_with" "Told.twin_with" Qb2 f fd) (T:TT K C) (mk_Told:Maker P w K mg base CX0 "Told" C 1 ["self","rows","full","empty"] (Qi7 C)) (m_tell:Method P w K mg base CX0 C "tell" 1 ["self","row","column","value"] (Zv4 C)):FnOk P w K mg base CX0 3 f fd ["self","row","column","value"] (Zg9 C):=by
 refine F.ok Zz4 (fun vs H Q E h=>?_) (fun cdv A outer s H vs Q E hr h=>?_)
 ·obtain⟨c,lf,le,h,w,v,r,cc,z,rfl,_⟩:=h
  rfl
 ·obtain⟨c,lf,le,h,w',v,r,cc,z,rfl,tp,vo,hz,hrh,hcw,op,hh,hw,k⟩:=h
  refine⟨_,(Qq4 (Qz6 (i:=4) Zz4.nd rfl (Or.inl rfl) (Zm0 mk_Told hr (Qq0 (Qx4 (pv 0) rfl) (Qq0 (Qx4 (pv 0) rfl) (Qq0 (Qx4 (pv 0) rfl) Qq3)))))
   (Qq4 (Qh8 (Qp0 m_tell (pv 4) hr (Qq0 (pv 1) (Qq0 (pv 2) (Qq0 (pv 3) Qq3)))))
   (Qq8 (Qz9 (pv 4))))),?_⟩
  obtain⟨dx,hc⟩:=tp.ins
  refine⟨_,rfl,c,C,dx,_,_,rfl,hc,T.cl,T.nR,Zg8 _ _ _,_,rfl,c,C,dx,_,_,rfl,hc,T.cl,T.nF,Zj9 _ _ _,_,rfl,c,C,dx,_,_,rfl,hc,T.cl,T.nE,Zv3 _ _ _,
   fun c' dx' hc' hdx' _=>Xi4 hc' hdx' tp.fl tp.el fun H1 lf' le' s1 n1 n2 ne hi hf' he'=>⟨rfl,?_⟩⟩
  have tp1:TdP C H1 c' lf' le' h w' v:=⟨⟨dx',hi⟩,hf',he',ne⟩
  refine⟨_,rfl,c',dx',_,rfl,hi,Zq6 _ _ _ (by decide +kernel) (by decide +kernel) (by decide +kernel),_,rfl,_,rfl,_,rfl,c',lf',le',h,w',v,r,cc,z,rfl,tp1,vo,hz,hrh,hcw,op,hh,hw,fun H2 k2 tp2=>?_⟩
  refine⟨_,rfl,k H2 c' lf' le' (fun b o hb=>k2 b o (s1 _ _ hb) fun z=>?_) hc' n1 n2 tp2⟩
  rcases List.mem_cons.mp z with e|e
  ·rw[e,n1]at hb;cases hb
  ·rw[List.mem_singleton.mp e,n2]at hb;cases hb
def Qo7 (C:Addr):Sp:=fun vs H Q _=>∃(c lf le:Addr) (h w:Nat) (v:View),vs=[.ref c,.int (w:Nat)]∧TdP C H c lf le h w v∧VOk h w v∧h≤4∧w≤4∧(Done h w v→Q .non H) ∧
 ∀r cc t,r<h→cc<w→Qz5 v r cc=none→H t=none→Q (.ref t) (upd H t (.tup [.int (r:Nat),.int (cc:Nat)]))
theorem Xi5 {h w:Nat}{v:View} (o:VOk h w v) {r cc:Nat} (hr:r<h) (hc:cc<w):Builtin.bitAnd (Builtin.bitOr ((Qz3 (Qq7 v 0 r) 1:Nat):Int) ((Qz3 (Qq7 v 0 r) 0:Nat):Int)/2^(((cc:Nat):Int)).toNat) 1=if Qz5 v r cc=none then 0 else 1:=by
 have hl:LOk h w (0,r):=.inl ⟨rfl,hr⟩
 have q:=Zs4 o hl (p:=cc) (by show cc<w;exact hc)
 rw[Zj7,Int.toNat_natCast,Ze9]
 unfold Qy2 at q
 replace q:(Qz3 (Qq7 v 0 r) 1|||Qz3 (Qq7 v 0 r) 0).testBit cc=false↔Qz5 v r cc=none:=q
 by_cases e:Qz5 v r cc=none
 ·rw[if_pos e,q.mpr e];rfl
 ·rw[if_neg e]
  cases b:(Qz3 (Qq7 v 0 r) 1|||Qz3 (Qq7 v 0 r) 0).testBit cc with
  | false=>exact absurd (q.mp b) e
  | true=>rfl
theorem Qd8:FnScope ["self","columns","row","marks","column"] ["self","columns"] (Qz0 Qh0):=⟨rfl,rfl,rfl,by decide +kernel,rfl,by decide +kernel,by decide +kernel⟩
theorem Zu1 {f:Addr}{fd:FuncData} (F:Fun K "first_open" "Told.first_open" Qh0 f fd) (B:Bt mg) (T:TT K C):FnOk P w K mg base CX0 1 f fd ["self","columns"] (Qo7 C):=by
 refine F.ok Qd8 (fun vs H Q E h=>?_) (fun cdv A outer s H vs Q E hr h=>?_)
 ·obtain⟨c,lf,le,h,w,v,rfl,_⟩:=h
  rfl
 ·obtain⟨c,lf,le,h,w',v,rfl,tp,vo,hh,hw,k0,k1⟩:=h
  refine⟨_,(Qq4 (Qf3 PassesOwn.never rfl (Qy8 rfl B.range (Qq0 (Qx4 (pv 0) rfl) Qq3)) (Qx3 (i:=2) Qd8.nd rfl (Or.inl rfl))
   (Qq4 (Qz6 (i:=3) Qd8.nd rfl (Or.inl rfl) (Qz7 Zh5 (Qx1 (Qk0 K) (Qx4 (pv 0) rfl) (pv 2) (fun _ _=>rfl)) (Qx1 (Qk0 K) (Qx4 (pv 0) rfl) (pv 2) (fun _ _=>rfl))))
   (Qq8 (Qf3 PassesOwn.never rfl (Qy8 rfl B.range (Qq0 (pv 1) Qq3)) (Qx3 (i:=4) Qd8.nd rfl (Or.inl rfl))
   (Qq8 (Qk1 (Qz8 Qb5 (Qz7 Qe8 (Qz7 Zn9 (pv 3) (pv 4)) Qq6) Qq6 (Qx2 _))
   (Qq8 (Qz9 (Qy9 (Qq0 (pv 2) (Qq0 (pv 4) Qq3)))))
   Qx8))))))
   (Qq8 (Qz9 Qg4))),?_⟩
  obtain⟨dx,hc⟩:=tp.ins
  refine⟨_,rfl,c,C,dx,_,_,rfl,hc,T.cl,T.nR,Zg8 _ _ _,_,rfl,by omega,by omega,Qn0 (lo:=0) (n:=((h:Nat):Int).toNat) (fun i σ H'=>H'=H∧∃o2 o3 o4:Option V,σ=[some (.ref c),some (.int (w':Nat)),o2,o3,o4]∧∀a b,a<i→b<w'→Qz5 v a b≠none) ⟨rfl,none,none,none,rfl,fun a b h=>absurd h (Nat.not_lt_zero _)⟩ ?_ ?_⟩
  ·intro Pw mk
   rintro i σ H' hi ⟨rfl,o2,o3,o4,rfl,hd⟩
   rw[Int.toNat_natCast]at hi
   have e0:(0:Int)+(i:Nat)=(i:Nat):=Int.zero_add _
   rw[e0]
   have g1:(Qk3 h w' v 1)[i]?=some (Qz3 (Qq7 v 0 i) 1):=by rw[Qp2 (by omega),Qb7 hi]
   have g0:(Qk3 h w' v 0)[i]?=some (Qz3 (Qq7 v 0 i) 0):=by rw[Qp2 (by omega),Qb7 hi]
   refine⟨_,rfl,c,C,dx,_,_,rfl,hc,T.cl,T.nF,Zj9 _ _ _,_,rfl,lf,_,_,_,rfl,rfl,SqL.of tp.fl,Qx7 (Zq5 g1),_,rfl,c,C,dx,_,_,rfl,hc,T.cl,T.nE,Zv3 _ _ _,_,rfl,le,_,_,_,rfl,rfl,SqL.of tp.el,Qx7 (Zq5 g0),_,_,rfl,rfl,?_⟩
   refine⟨_,rfl,_,rfl,by omega,by omega,Qn0 (lo:=0) (n:=((w':Nat):Int).toNat) (fun j σ H1=>H1=H'∧∃o4:Option V,σ=[some (.ref c),some (.int (w':Nat)),some (.int (i:Nat)),some (.int (Builtin.bitOr ((Qz3 (Qq7 v 0 i) 1:Nat):Int) ((Qz3 (Qq7 v 0 i) 0:Nat):Int))),o4]∧∀b,b<j→Qz5 v i b≠none) ⟨rfl,o4,rfl,fun b h=>absurd h (Nat.not_lt_zero _)⟩ ?_ ?_⟩
   ·intro Pw2 mk2
    rintro j σ H1 hj ⟨rfl,o4,rfl,hb⟩
    rw[Int.toNat_natCast]at hj
    have e1:(0:Int)+(j:Nat)=(j:Nat):=Int.zero_add _
    rw[e1]
    refine⟨_,rfl,_,rfl,_,_,rfl,rfl,by omega,_,_,rfl,rfl,rfl,_,rfl,?_⟩
    have ot:=Xi5 vo hi hj
    by_cases e:Qz5 v i j=none
    ·rw[if_pos e]at ot
     have et:decide (V.int (Builtin.bitAnd (Builtin.bitOr ((Qz3 (Qq7 v 0 i) 1:Nat):Int) ((Qz3 (Qq7 v 0 i) 0:Nat):Int)/2^(((j:Nat):Int)).toNat) 1)=V.int 0)=true:=by rw[ot];rfl
     show (if decide (V.int (Builtin.bitAnd (Builtin.bitOr ((Qz3 (Qq7 v 0 i) 1:Nat):Int) ((Qz3 (Qq7 v 0 i) 0:Nat):Int)/2^(((j:Nat):Int)).toNat) 1)=V.int 0)=true then _ else _)
     rw[et]
     exact iteT ⟨_,rfl,_,rfl,(by show 2≤sizeLine;decide),fun t ht=>k1 i j t hi hj e ht⟩
    ·rw[if_neg e]at ot
     have et:decide (V.int (Builtin.bitAnd (Builtin.bitOr ((Qz3 (Qq7 v 0 i) 1:Nat):Int) ((Qz3 (Qq7 v 0 i) 0:Nat):Int)/2^(((j:Nat):Int)).toNat) 1)=V.int 0)=false:=by rw[ot];rfl
     show (if decide (V.int (Builtin.bitAnd (Builtin.bitOr ((Qz3 (Qq7 v 0 i) 1:Nat):Int) ((Qz3 (Qq7 v 0 i) 0:Nat):Int)/2^(((j:Nat):Int)).toNat) 1)=V.int 0)=true then _ else _)
     rw[et]
     refine iteF (mk2 _ _ _ ⟨rfl,_,rfl,fun b hb'=>?_⟩)
     by_cases eb:b=j
     ·rw[eb];exact e
     ·exact hb b (by omega)
   ·rintro σ H1 ⟨rfl,o4,rfl,hb⟩
    rw[Int.toNat_natCast]at hb
    refine mk _ _ _ ⟨rfl,_,_,_,rfl,fun a b ha hb'=>?_⟩
    by_cases ea:a=i
    ·rw[ea];exact hb b hb'
    ·exact hd a b (by omega) hb'
  ·rintro σ H' ⟨rfl,o2,o3,o4,rfl,hd⟩
   rw[Int.toNat_natCast]at hd
   exact k0 hd
def picZ (v:View):List (List Int):=v.map fun s=>s.map fun o=>o.getD 0
def Zk0 (C:Addr):Sp:=fun vs H Q _=>∃(c lf le:Addr) (h w:Nat) (v:View),vs=[.ref c,.int (w:Nat)]∧TdP C H c lf le h w v∧VOk h w v∧Done h w v∧h≤4∧w≤4 ∧
 ∀l as H',OwnV H H' l as ((picZ v).map fun xs=>xs.map V.int)→Q (.ref l) H'
theorem Yq6 {h w:Nat}{v:View} (o:VOk h w v) (d:Done h w v) {i:Nat} (hi:i<h):Qa2 (Qz3 (Qq7 v 0 i) 1) w=(v.getD i []).map fun o=>o.getD 0:=by
 have r:=o.row hi
 have hl:LOk h w (0,i):=.inl ⟨rfl,hi⟩
 unfold Qa2
 apply List.ext_getElem
 ·rw[List.length_map,List.length_range,List.length_map,r.1]
 intro j h1 h2
 rw[List.length_map,List.length_range]at h1
 rw[List.getElem_map,List.getElem_range,List.getElem_map]
 have hb:=Zw7 o hl 1 j
 have hc:Qz5 v i j=(v.getD i [])[j]'(by rw[r.1];exact h1):=by
  unfold Qz5
  rw[Qz4 (List.getElem?_eq_getElem (by rw[r.1];exact h1))]
 replace hb:(Qz3 (Qq7 v 0 i) 1).testBit j=decide (j<w∧Qz5 v i j=some 1):=hb
 rw[hb]
 rcases Zs1 o hi h1 with q|q|q
 ·exact absurd q (d i j hi h1)
 ·rw[decide_eq_false (fun z=>by rw[q]at z;exact nomatch z.2),if_neg Bool.false_ne_true,←hc,q];rfl
 ·rw[decide_eq_true ⟨h1,q⟩,if_pos rfl,←hc,q];rfl
theorem Za7:FnScope ["self","columns"] ["self","columns"] (Qz0 Qm5):=⟨rfl,rfl,rfl,by decide +kernel,rfl,by decide +kernel,by decide +kernel⟩
theorem Za8 {f:Addr}{fd:FuncData} (F:Fun K "picture" "Told.picture" Qm5 f fd) (B:Bt mg) (T:TT K C) (c_unpacked:Callee P w K mg base CX0 "unpacked" 1 ["cells","length"] Zy4):FnOk P w K mg base CX0 2 f fd ["self","columns"] (Zk0 C):=by
 refine F.ok Za7 (fun vs H Q E h=>?_) (fun cdv A outer s H vs Q E hr h=>?_)
 ·obtain⟨c,lf,le,h,w,v,rfl,_⟩:=h
  rfl
 ·obtain⟨c,lf,le,h,w',v,rfl,tp,vo,dn,hh,hw,k⟩:=h
  refine⟨_,(Qq8 (Qz9 (Qp5 ["marks"] [1] ⟨rfl,rfl,rfl,rfl,rfl⟩ rfl (Qw2 K (Qa9 (Zk7 K) (Qx4 (pv 0) rfl) Zj2 (Zj3 (Qx4 (pv 0) rfl)))) (fun _ _ _ _ _=>(Qx3 (i:=0) (show (["marks","columns"]:List Str).Nodup by decide +kernel) rfl (Or.inl rfl))) (fun _ _ _ _ _=>Qw5 (Qj6 c_unpacked hr (Qq0 (pv 0) (Qq0 (pv 1) Qq3))))))),?_⟩
  obtain⟨dx,hc⟩:=tp.ins
  have hml:(mV (Qk3 h w' v 1)).length=h+w':=by rw[Qf4,Qm2]
  refine⟨_,rfl,c,C,dx,_,_,rfl,hc,T.cl,T.nF,Zj9 _ _ _,_,rfl,c,C,dx,_,_,rfl,hc,T.cl,T.nR,Zg8 _ _ _,_,rfl,lf,_,rfl,SqL.of tp.fl,fun q hq=>?_⟩
  have ecut:cutV (mV (Qk3 h w' v 1)) none (some ((h:Nat):Int))=(mV (Qk3 h w' v 1)).take h:=by
   unfold cutV
   rw[HT.sIx_nat,HT.sIx_none,Nat.min_eq_left (by rw[hml];omega)]
   simp
  rw[ecut]
  have s1:Same H (upd H q (.lst ((mV (Qk3 h w' v 1)).take h))):=Qq5 hq
  have hq1:(upd H q (.lst ((mV (Qk3 h w' v 1)).take h))) q=some (.lst ((mV (Qk3 h w' v 1)).take h)):=Qq1
  generalize upd H q (.lst ((mV (Qk3 h w' v 1)).take h))=H1 at s1 hq1 ⊢
  have htl:((mV (Qk3 h w' v 1)).take h).length=h:=by rw[List.length_take,hml];omega
  refine⟨q,rfl,⟨_,SqL.of hq1⟩,Qw0 (K:=K) (a:=q) (xs:=(mV (Qk3 h w' v 1)).take h) (fun j ys H3=>∃as,ys=as.map V.ref∧GrowV H1 (fun j=>(Qa2 (Qz3 (Qq7 v 0 j) 1) w').map V.int) j as H3) ⟨[],rfl,GrowV.zero⟩ ?_ ?_ ?_ ?_ ?_⟩
  ·exact Nat.le_of_lt (Qv4 (by omega))
  ·rintro j ys H3 ⟨as,rfl,g⟩
   rw[List.length_map,g.len]
   omega
  ·rintro j ys H3 _ ⟨as,rfl,g⟩
   exact SqL.of (g.same _ _ hq1)
  ·rintro j y ys H3 hj ⟨as,rfl,g⟩
   have hjl:j<h:=by have:=(List.getElem?_eq_some_iff.mp hj).1;omega
   rw[List.getElem?_take_of_lt hjl,Zq5 (n:=Qz3 (Qq7 v 0 j) 1) (by rw[Qp2 (by omega),Qb7 hjl])]at hj
   cases hj
   refine⟨rfl,?_⟩
   refine⟨_,rfl,_,rfl,Qz3 (Qq7 v 0 j) 1,w',rfl,by omega,fun l1 hl1=>?_⟩
   exact⟨as++[l1],by rw[List.map_append];rfl,g.next (Qq5 hl1) hl1 Qq1⟩
  ·rintro ys H3 ⟨as,rfl,g⟩ l hl
   rw[htl]at g
   have ow:=g.own hl
   refine k l as _ ?_
   have erows:(List.range h).map (fun j=>(Qa2 (Qz3 (Qq7 v 0 j) 1) w').map V.int)=(picZ v).map fun xs=>xs.map V.int:=by
    apply List.ext_getElem
    ·unfold picZ;simp[vo.len]
    intro i h1 h2
    rw[List.length_map,List.length_range]at h1
    rw[List.getElem_map,List.getElem_range,Yq6 vo dn h1,List.getElem_map]
    unfold picZ
    rw[List.getElem_map,Qz4 (List.getElem?_eq_getElem (by rw[vo.len];exact h1))]
   rw[erows]at ow
   exact⟨s1.trans ow.same,ow.at',ow.len,ow.row,ow.nd,ow.nl,fun a ha=>s1.free (ow.new a ha),s1.free ow.newl⟩
end
section
variable {P:Program}{w:World}{K:PySem.W.Frag}{mg:Str→Option Value}{base:Heap}{C:Addr}
structure LT (K:PySem.W.Frag) (C:Addr):Prop where
 cl:Cls K C
 nS:Qg5 K C "shut"
 nL:Qg5 K C "length"
 nC:Qg5 K C "choices"
 nK:Qg5 K C "known"
 nR:Qg5 K C "rests"
def Qf1 (sh:Addr) (n:Nat) (lc dk dr:Addr):List (Str×V):=putF "rests" (.ref dr) (putF "known" (.ref dk) (putF "choices" (.ref lc) (putF "length" (.int (n:Nat)) (putF "shut" (.ref sh) []))))
theorem Xh0 (sh:Addr) (n:Nat) (lc dk dr:Addr):(Qf1 sh n lc dk dr).lookup ("rests" : Str)=some (.ref dr):=by unfold Qf1;rw[Qq9,if_pos rfl]
theorem Zs7 (sh:Addr) (n:Nat) (lc dk dr:Addr):(Qf1 sh n lc dk dr).lookup ("known" : Str)=some (.ref dk):=by
 unfold Qf1;rw[Qq9,if_neg (by decide +kernel),Qq9,if_pos rfl]
theorem Qn4 (sh:Addr) (n:Nat) (lc dk dr:Addr):(Qf1 sh n lc dk dr).lookup ("choices" : Str)=some (.ref lc):=by
 unfold Qf1;rw[Qq9,if_neg (by decide +kernel),Qq9,if_neg (by decide +kernel),Qq9,if_pos rfl]
theorem Xi6 (sh:Addr) (n:Nat) (lc dk dr:Addr):(Qf1 sh n lc dk dr).lookup ("length" : Str)=some (.int (n:Nat)):=by
 unfold Qf1;rw[Qq9,if_neg (by decide +kernel),Qq9,if_neg (by decide +kernel),Qq9,if_neg (by decide +kernel),Qq9,if_pos rfl]
theorem Xm6 (sh:Addr) (n:Nat) (lc dk dr:Addr):(Qf1 sh n lc dk dr).lookup ("shut" : Str)=some (.ref sh):=by
 unfold Qf1;rw[Qq9,if_neg (by decide +kernel),Qq9,if_neg (by decide +kernel),Qq9,if_neg (by decide +kernel),Qq9,if_neg (by decide +kernel),Qq9,if_pos rfl]
theorem Xh1 (sh:Addr) (n:Nat) (lc dk dr:Addr) {m:Str} (h1:¬m = "rests") (h2:¬m = "known") (h3:¬m = "choices") (h4:¬m = "length") (h5:¬m = "shut"):(Qf1 sh n lc dk dr).lookup m=none:=by
 unfold Qf1;rw[Qq9,if_neg h1,Qq9,if_neg h2,Qq9,if_neg h3,Qq9,if_neg h4,Qq9,if_neg h5];rfl
def Zv5 (H:Hp) (fs:List (Nat×Nat)) (q:Addr):Prop:=∃us,H q=some (.tup us)∧us.length=fs.length∧∀(i:Nat) (f:Nat×Nat),fs[i]?=some f→∃b,us[i]?=some (.ref b)∧H b=some (.tup [.int (f.1:Nat),.int (f.2:Nat)])
theorem Zv5.mono {H H':Hp} (k:TupK H H') {fs:List (Nat×Nat)}{q:Addr} (h:Zv5 H fs q):Zv5 H' fs q:=by
 obtain⟨us,h1,h2,h3⟩:=h
 exact⟨us,k _ _ h1,h2,fun i f e=>by obtain⟨b,e1,e2⟩:=h3 i f e;exact⟨b,e1,k _ _ e2⟩⟩
def Qh6 (L:List Nat):RKey:=((Qj7 L:Nat),L.map fun x=>((x&&&Qj7 L:Nat):Int))
theorem Yw7 {L L':List Nat} (e:Qh6 L=Qh6 L'):Qa4 L=Qa4 L':=by
 unfold Qh6 at e
 unfold Qa4
 have e1:Qj7 L=Qj7 L':=by have:=congrArg Prod.fst e;exact Int.ofNat.inj this
 have e2:(L.map fun x=>((x&&&Qj7 L:Nat):Int))=L'.map fun x=>((x&&&Qj7 L':Nat):Int):=congrArg Prod.snd e
 refine Prod.ext e1 ?_
 have inj:∀a b:List Nat,a.map (fun x:Nat=>(x:Int))=b.map (fun x:Nat=>(x:Int))→a=b:=by
  intro a
  induction a with
  | nil=>intro b h;cases b with
   | nil=>rfl
   | cons y ys=>simp at h
  | cons x xs ih =>
   intro b h
   cases b with
   | nil=>simp at h
   | cons y ys =>
    simp only[List.map_cons,List.cons.injEq]at h
    rw[Int.ofNat.inj h.1,ih ys h.2]
 apply inj
 rw[List.map_map,List.map_map]
 exact e2
def Zh0 (H:Hp) (rs:List Nat) (n:Nat) (rk:List RKv) (F E:Nat) (val:V):Prop :=
 (Qd7 rs n F E=[]∧val=.non)∨(Qd7 rs n F E≠[]∧∃(p q:Addr) (i:Nat) (b:Addr),val=.ref p∧H p=some (.tup [.ref q,.int (i:Nat)])∧Zv5 H (Qm9 n (Qd7 rs n F E) F E) q∧rk[i]?=some (Qh6 (Qd7 rs n F E),b,(i:Int)))
theorem Zh0.mono {H H':Hp} (k:TupK H H') {rs:List Nat}{n:Nat}{rk:List RKv} (mo:List RKv) {F E:Nat}{val:V} (h:Zh0 H rs n rk F E val):Zh0 H' rs n (rk++mo) F E val:=by
 rcases h with h|⟨h,p,q,i,b,e,h1,h2,h3⟩
 ·exact .inl h
 ·exact .inr ⟨h,p,q,i,b,e,k _ _ h1,h2.mono k,by rw[List.getElem?_append_left (List.getElem?_eq_some_iff.mp h3).1];exact h3⟩
structure RsP (P:Program) (w:World) (H:Hp) (dr:Addr) (rk:List RKv):Prop where
 at':H dr=some (Qd4 P w dr rk)
 ks:RestsOk H rk
 num:∀(i:Nat) (x:RKv),rk[i]?=some x→x.2.2=(i:Int)
theorem RestsOk.mono {H H':Hp} (k:TupK H H') {rk:List RKv} (h:RestsOk H rk):RestsOk H' rk:=fun p hp=>by
 obtain⟨c,h1,h2⟩:=h p hp
 exact⟨c,k _ _ h1,k _ _ h2⟩
theorem Xi7 {rk:List RKv}{k:RKey}{i:Int} (h:Zz9 rk k=some i):∃(j:Nat) (b:Addr),rk[j]?=some (k,b,i):=by
 unfold Zz9 at h
 obtain⟨x,hx,e⟩:=Option.map_eq_some_iff.mp h
 have hp:=List.find?_some hx
 obtain⟨j,hj,ej⟩:=List.getElem_of_mem (List.mem_of_find?_eq_some hx)
 refine⟨j,x.2.1,?_⟩
 rw[List.getElem?_eq_getElem hj,ej]
 obtain⟨x1,x2,x3⟩:=x
 replace hp:x1=k:=of_decide_eq_true hp
 replace e:x3=i:=e
 rw[hp,e]
structure LnP (C:Addr) (H:Hp) (a dk dr:Addr) (sd num:Nat) (rs:List Nat) (n:Nat):Prop where
 ex:∃dx sh lc,H a=some (.ins C dx (Qf1 sh n lc dk dr))∧H sh=some (.tup [.str "shut",.str (Qu6 sd),.int (num:Nat)])∧H lc=some (.lst (mV (plN rs (n:Nat))))
theorem LnP.keep {H H':Hp}{a dk dr:Addr}{sd num:Nat}{rs:List Nat}{n:Nat}{M:List Addr} (p:LnP C H a dk dr sd num rs n) (k:Qz2 H H' M) (hM:∀m∈M,∀o,H m=some o→(∀C dx fs,o≠.ins C dx fs)∧(∀xs,o≠.tup xs)∧o≠.lst (mV (plN rs (n:Nat)))):LnP C H' a dk dr sd num rs n:=by
 obtain⟨dx,sh,lc,h1,h2,h3⟩:=p.ex
 exact⟨dx,sh,lc,k _ _ h1 fun z=>(hM _ z _ h1).1 _ _ _ rfl,k _ _ h2 fun z=>(hM _ z _ h2).2.1 _ rfl,k _ _ h3 fun z=>(hM _ z _ h3).2.2 rfl⟩
def Zx6 (F E x:Nat):Bool:=decide (x&&&F=F)&&decide (x&&&E=0)
theorem Xq3 (m n:Nat):decide (V.int ((m:Nat):Int)=V.int ((n:Nat):Int))=decide (m=n):=by
 by_cases e:m=n
 ·rw[decide_eq_true e,decide_eq_true (by rw[e])]
 ·rw[decide_eq_false e,decide_eq_false fun z=>e (by have:=V.int.inj z;omega)]
def Zl4 (P:Program) (w:World) (C:Addr):Sp:=fun vs H Q _=>∃(a dk dr:Addr) (sd num:Nat) (rs:List Nat) (n F E:Nat) (rk:List RKv),vs=[.ref a,.int (F:Nat),.int (E:Nat)]∧LnP C H a dk dr sd num rs n∧RsP P w H dr rk∧n≤4∧rs.length≤2∧(∀x∈plN rs (n:Nat),x<16)∧rk.length≤1000 ∧
 ∀H' val mo,Qz2 H H' [dr]→RsP P w H' dr (rk++mo)→mo.length≤1→Zh0 H' rs n (rk++mo) F E val→Q val H'
end
section
variable {P:Program}{w:World}{K:PySem.W.Frag}{mg:Str→Option Value}{base:Heap}{C:Addr}
theorem Yb6 (x:Nat) (xs:List Nat):alw x xs≤x:=by
 unfold alw
 induction xs generalizing x with
 | nil=>exact Nat.le_refl _
 | cons y ys ih=>exact Nat.le_trans (ih (x&&&y)) Nat.and_le_left
theorem Yb7 (x:Nat) (xs:List Nat):x≤evr x xs:=by
 unfold evr
 induction xs generalizing x with
 | nil=>exact Nat.le_refl _
 | cons y ys ih=>exact Nat.le_trans Nat.left_le_or (ih (x|||y))
theorem Xi8 {x:Nat}{L:List Nat}:((evr x L:Nat):Int)-((alw x L:Nat):Int)=((evr x L-alw x L:Nat):Int):=by
 have:=Yb6 x L
 have:=Yb7 x L
 omega
def Qo8 (H:Hp) (fs:List (Nat×Nat)) (us:List V):Prop:=us.length=fs.length∧∀(i:Nat) (f:Nat×Nat),fs[i]?=some f→∃b,us[i]?=some (.ref b)∧H b=some (.tup [.int (f.1:Nat),.int (f.2:Nat)])
theorem Qo8.mono {H H':Hp} (k:TupK H H') {fs:List (Nat×Nat)}{us:List V} (h:Qo8 H fs us):Qo8 H' fs us:=⟨h.1,fun i f e=>by obtain⟨b,e1,e2⟩:=h.2 i f e;exact⟨b,e1,k _ _ e2⟩⟩
theorem Qo8.snoc {H:Hp}{fs:List (Nat×Nat)}{us:List V} (h:Qo8 H fs us) {f:Nat×Nat}{b:Addr} (hb:H b=some (.tup [.int (f.1:Nat),.int (f.2:Nat)])):Qo8 H (fs++[f]) (us++[.ref b]):=by
 refine⟨by rw[List.length_append,List.length_append,h.1];rfl,fun i g e=>?_⟩
 by_cases hi:i<fs.length
 ·rw[List.getElem?_append_left hi]at e
  obtain⟨x,h1,h2⟩:=h.2 i g e
  exact⟨x,by rw[List.getElem?_append_left (by rw[h.1];exact hi)];exact h1,h2⟩
 ·rw[List.getElem?_append_right (by omega)]at e
  have h0:i-fs.length=0:=by
   have:=(List.getElem?_eq_some_iff.mp e).1
   simp at this
   omega
  rw[h0]at e
  cases e
  exact⟨b,by rw[List.getElem?_append_right (by rw[h.1];omega),h.1,h0];rfl,hb⟩
theorem Qk9:FnScope ["self","full","empty","left","always","ever","cells","loose","passed","forced","rest"] ["self","full","empty"] (Qz0 Qp7):=⟨rfl,rfl,rfl,by decide +kernel,rfl,by decide +kernel,by decide +kernel⟩
theorem Zs8 {f:Addr}{fd:FuncData} (F:Fun K "reckoned" "Line.reckoned" Qp7 f fd) (B:Bt mg) (T:LT K C):FnOk P w K mg base CX0 1 f fd ["self","full","empty"] (Zl4 P w C):=by
 refine F.ok Qk9 (fun vs H Q E h=>?_) (fun cdv A outer s H vs Q E hr h=>?_)
 ·obtain⟨a,dk,dr,sd,num,rs,n,F,E',rk,rfl,_⟩:=h
  rfl
 ·obtain⟨a,dk,dr,sd,num,rs,n,Fu,Em,rk,rfl,lp,rp,hn,hrs,h16,hrk,k⟩:=h
  have hu:=Qt0 hr
  refine⟨_,(Qq4 (Qf5 (i:=3) ["cells"] [1,2] Qk9.nd rfl rfl ⟨rfl,rfl,rfl,rfl,rfl⟩ rfl (Qw2 K (Qx4 (pv 0) rfl)) (fun _ _ _ _ _=>(Qx3 (i:=0) (show (["cells","full","empty"]:List Str).Nodup by decide +kernel) rfl (Or.inl rfl))) (fun _ _ _ _ _=>Xw5 (PW.pt (Xv5 (Qz8 Qb5 (Qz7 Qe8 (pv 0) (pv 1)) (pv 1) (Qx2 _)) (Zo9 (Qz8 Qb5 (Qz7 Qe8 (pv 0) (pv 2)) Qq6 (Qx2 _))))) (pv 0)))
   (Qq4 (Qk1 (Qz8 Qb5 (Qx0 (Qx5 K) rfl B.len Qj3 (Qq0 (pv 3) Qq3)) Qq6 (Qx2 _))
   (Qq8 (Qz9 Qg4))
   Qx8)
   (Qq4 (Qz6 (i:=4) Qk9.nd rfl (Or.inr rfl) (Qx1 (Qk0 K) (pv 3) Qq6 (fun _ _=>rfl)))
   (Qq4 (Qz6 (i:=5) Qk9.nd rfl (Or.inl rfl) (Qx1 (Qk0 K) (pv 3) Qq6 (fun _ _=>rfl)))
   (Qq4 (Qf3 PassesOwn.never rfl (Qw2 K (pv 3)) (Qx3 (i:=6) Qk9.nd rfl (Or.inl rfl))
   (Qq4 (Qz6 (i:=4) Qk9.nd rfl (Or.inr rfl) (Qz7 Qe8 (pv 4) (pv 6)))
   (Qq8 (Qz6 (i:=5) Qk9.nd rfl (Or.inl rfl) (Qz7 Zh5 (pv 5) (pv 6))))))
   (Qq4 (Qz6 (i:=7) Qk9.nd rfl (Or.inr rfl) (Qz7 Zk2 (pv 5) (pv 4)))
   (Qq4 (Qz6 (i:=8) Qk9.nd rfl (Or.inr rfl) (Qz7 Zh5 (Qz7 Zh5 (pv 7) (pv 1)) (pv 2)))
   (Qq4 (Qf5 (i:=9) ["place"] [4,8] Qk9.nd rfl rfl ⟨rfl,rfl,rfl,rfl,rfl⟩ rfl (Qy8 rfl B.range (Qq0 (Qx4 (pv 0) rfl) Qq3)) (fun _ _ _ _ _=>(Qx3 (i:=0) (show (["place","always","passed"]:List Str).Nodup by decide +kernel) rfl (Or.inl rfl))) (fun _ _ _ _ _=>Xw5 (Qz8 Qb5 (Qz7 Qe8 (Qz7 Zn9 (pv 2) (pv 0)) Qq6) Qq6 (Qx2 _)) (Qy9 (Qq0 (pv 0) (Qq0 (Qz7 Qe8 (Qz7 Zn9 (pv 1) (pv 0)) Qq6) Qq3)))))
   (Qq4 (Qz6 (i:=10) Qk9.nd rfl (Or.inl rfl) (Qy9 (Qq0 (pv 7) (Qq0 (Qv0 (Qn7 K) rfl B.tuple Ql1 (Qq0 (Qp5 ["cells"] [7] ⟨rfl,rfl,rfl,rfl,rfl⟩ rfl (Qw2 K (pv 3)) (fun _ _ _ _ _=>(Qx3 (i:=0) (show (["cells","loose"]:List Str).Nodup by decide +kernel) rfl (Or.inl rfl))) (fun _ _ _ _ _=>Qw5 (Qz7 Qe8 (pv 0) (pv 1)))) Qq3)) Qq3))))
   (Qq8 (Qz9 (Qy9 (Qq0 (Qv0 (Qn7 K) rfl B.tuple Ql1 (Qq0 (pv 9) Qq3)) (Qq0 (Xs3 hu (Qx4 (pv 0) rfl) (pv 10) (Qx0 Xs2 rfl B.len Qj3 (Qq0 (Qx4 (pv 0) rfl) Qq3)) ⟨rfl,rfl,rfl,rfl⟩) Qq3)))))))))))))),?_⟩
  obtain⟨dx,sh,lc,ha,hsh,hlc⟩:=lp.ex
  have hpl:(plN rs (n:Nat)).length≤13^rs.length:=Zl3 rs _ (by omega)
  have h13:13^rs.length≤13^2:=Nat.pow_le_pow_right (by decide) hrs
  have hbig:8000≤sizeLine:=by decide
  refine⟨_,rfl,a,C,dx,_,_,rfl,ha,T.cl,T.nC,Qn4 _ _ _ _ _,lc,rfl,⟨_,SqL.of hlc⟩,Qw0 (K:=K) (a:=lc) (xs:=mV (plN rs (n:Nat))) (fun j ys H'=>H'=H∧ys=mV (((plN rs (n:Nat)).take j).filter (Zx6 Fu Em))) ⟨rfl,rfl⟩ ?_ ?_ ?_ ?_ ?_⟩
  ·rw[Qf4];omega
  ·rintro j ys H' ⟨_,rfl⟩
   rw[Qf4]
   refine Nat.le_trans (List.length_filter_le _ _) ?_
   rw[List.length_take]
   omega
  ·rintro j ys H' _ ⟨rfl,_⟩
   exact SqL.of hlc
  ·rintro j y ys H' hj ⟨rfl,rfl⟩
   unfold mV at hj
   rw[List.getElem?_map]at hj
   obtain⟨x,hx,ex⟩:=Option.map_eq_some_iff.mp hj
   subst ex
   have est:((plN rs (n:Nat)).take (j+1)).filter (Zx6 Fu Em)=((plN rs (n:Nat)).take j).filter (Zx6 Fu Em)++(if Zx6 Fu Em x=true then [x] else []):=by
    rw[List.take_add_one,hx,List.filter_append]
    congr 1
    show List.filter (Zx6 Fu Em) [x]=_
    rw[List.filter_cons]
    split<;>rfl
   refine⟨rfl,?_⟩
   refine⟨_,rfl,_,rfl,_,_,rfl,rfl,_,rfl,rfl,_,rfl,?_⟩
   show (if decide (V.int (((x&&&Fu:Nat):Nat):Int)=V.int ((Fu:Nat):Int))=true then _ else _)
   rw[Xq3]
   by_cases h1:x&&&Fu=Fu
   ·rw[decide_eq_true h1]
    refine iteT ⟨_,rfl,_,rfl,_,_,rfl,rfl,rfl,_,rfl,?_⟩
    show (if decide (V.int (((x&&&Em:Nat):Nat):Int)=V.int ((0:Nat):Int))=true then _ else _)
    rw[Xq3]
    by_cases h2:x&&&Em=0
    ·rw[decide_eq_true h2]
     refine iteT ⟨_,rfl,rfl,?_⟩
     rw[est,if_pos (by unfold Zx6;rw[decide_eq_true h1,decide_eq_true h2];rfl)]
     unfold mV
     rw[List.map_append]
     rfl
    ·rw[decide_eq_false h2]
     refine iteF ⟨rfl,?_⟩
     rw[est,if_neg (by unfold Zx6;rw[decide_eq_false h2,Bool.and_false];exact Bool.false_ne_true),List.append_nil]
   ·rw[decide_eq_false h1]
    refine iteF (iteF ⟨rfl,?_⟩)
    rw[est,if_neg (by unfold Zx6;rw[decide_eq_false h1,Bool.false_and];exact Bool.false_ne_true),List.append_nil]
  rintro ys H' ⟨rfl,rfl⟩ l hl
  have eL:((plN rs (n:Nat)).take (mV (plN rs (n:Nat))).length).filter (Zx6 Fu Em)=Qd7 rs n Fu Em:=by
   rw[Qf4,List.take_length]
   rfl
  rw[eL]
  have hLl:(Qd7 rs n Fu Em).length≤200:=Nat.le_trans (List.length_filter_le _ _) (by omega)
  have hL16:∀x∈Qd7 rs n Fu Em,x<16:=fun x hx=>h16 x (List.mem_filter.mp hx).1
  have s1:Same H' (upd H' l (.lst (mV (Qd7 rs n Fu Em)))):=Qq5 hl
  have hl1:(upd H' l (.lst (mV (Qd7 rs n Fu Em)))) l=some (.lst (mV (Qd7 rs n Fu Em))):=Qq1
  generalize upd H' l (.lst (mV (Qd7 rs n Fu Em)))=H1 at s1 hl1 ⊢
  refine⟨_,rfl,l,_,rfl,.inl (SqL.of hl1),rfl,_,rfl,?_⟩
  rw[Qf4]
  show (if decide (V.int (((Qd7 rs n Fu Em).length:Nat):Int)=V.int ((0:Nat):Int))=true then _ else _)
  rw[Xq3]
  have rp1:RsP P w H1 dr rk:=⟨s1 _ _ rp.at',K12.RestsOk.mono (TupK.of s1) rp.ks,rp.num⟩
  cases hL:Qd7 rs n Fu Em with
  | nil =>
   rw[List.length_nil,decide_eq_true rfl]
   refine iteT (k H1 .non [] (Qg2 s1) (by rw[List.append_nil];exact rp1) (by simp) (.inl ⟨hL,rfl⟩))
  | cons x0 xs =>
   rw[hL]at hl1 hLl hL16
   rw[decide_eq_false (by rw[List.length_cons];omega)]
   have g0:(mV (x0::xs))[0]?=some (V.int ((x0:Nat):Int)):=rfl
   refine iteF ⟨_,rfl,l,_,_,_,rfl,rfl,SqL.of hl1,Qx7 (j:=0) g0,?_⟩
   refine⟨_,rfl,l,_,_,_,rfl,rfl,SqL.of hl1,Qx7 (j:=0) g0,?_⟩
   refine⟨_,rfl,l,rfl,⟨_,SqL.of hl1⟩,Zm1 (K:=K) (a:=l) (xs:=mV (x0::xs)) (fun i σ H2=>H2=H1∧∃o6:Option V,σ=[some (.ref a),some (.int (Fu:Nat)),some (.int (Em:Nat)),some (.ref l),some (.int ((alw x0 ((x0::xs).take i):Nat):Int)),some (.int ((evr x0 ((x0::xs).take i):Nat):Int)),o6,none,none,none,none]) ⟨rfl,none,rfl⟩ ?_ ?_ ?_⟩
   ·rintro i σ H2 _ ⟨rfl,_⟩
    exact SqL.of hl1
   ·intro Pw mk
    rintro i y σ H2 hi ⟨rfl,o6,rfl⟩
    unfold mV at hi
    rw[List.getElem?_map]at hi
    obtain⟨x,hx,ex⟩:=Option.map_eq_some_iff.mp hi
    subst ex
    have ea:alw x0 ((x0::xs).take (i+1))=alw x0 ((x0::xs).take i)&&&x:=by unfold alw;rw[List.take_add_one,hx,List.foldl_append];rfl
    have ee:evr x0 ((x0::xs).take (i+1))=evr x0 ((x0::xs).take i)|||x:=by unfold evr;rw[List.take_add_one,hx,List.foldl_append];rfl
    refine⟨_,rfl,_,rfl,_,_,rfl,rfl,_,rfl,_,rfl,_,_,rfl,rfl,mk _ _ _ ⟨rfl,some (V.int ((x:Nat):Int)),?_⟩⟩
    rw[ea,ee,←Zj7]
    rfl
   rintro σ H2 ⟨rfl,o6,rfl⟩
   rw[Qf4,List.take_length]
   have hlo:((evr x0 (x0::xs):Nat):Int)-((alw x0 (x0::xs):Nat):Int)=((Qj7 (x0::xs):Nat):Int):=Xi8
   refine⟨_,rfl,_,rfl,_,_,rfl,rfl,?_⟩
   refine⟨_,rfl,_,rfl,_,_,rfl,rfl,_,rfl,_,_,rfl,rfl,?_⟩
   have ha1:=s1 _ _ ha
   have eP:∀i:Nat,Builtin.bitAnd (Builtin.bitOr (Builtin.bitOr (((evr x0 (x0::xs):Nat):Int)-((alw x0 (x0::xs):Nat):Int)) ((Fu:Nat):Int)) ((Em:Nat):Int)/2^(((i:Nat):Int)).toNat) 1=if (Qj7 (x0::xs)|||Fu|||Em).testBit i=true then 1 else 0:=fun i=>by
    rw[hlo,Zj7,Zj7,Int.toNat_natCast,Ze9]
   have eA:∀i:Nat,Builtin.bitAnd (((alw x0 (x0::xs):Nat):Int)/2^(((i:Nat):Int)).toNat) 1=(((if (alwN (x0::xs)).testBit i=true then 1 else 0:Nat)):Int):=fun i=>by
    rw[Int.toNat_natCast,Ze9]
    show (if (alw x0 (x0::xs)).testBit i=true then (1:Int) else 0)=_
    show _=(((if (alw x0 (x0::xs)).testBit i=true then 1 else 0:Nat)):Int)
    split<;>rfl
   refine⟨_,rfl,a,C,dx,_,_,rfl,ha1,T.cl,T.nL,Xi6 _ _ _ _ _,((n:Nat):Int),rfl,by omega,by omega,Zz7 (lo:=0) (n:=((n:Nat):Int).toNat) (fun i ys H3=>ys.length≤i∧Same H2 H3∧Qo8 H3 (((List.range i).filter fun p=>!(Qj7 (x0::xs)|||Fu|||Em).testBit p).map fun p=>(p,if (alwN (x0::xs)).testBit p=true then 1 else 0)) ys) ⟨Nat.le_refl _,Same.refl _,⟨rfl,fun i f e=>by simp at e⟩⟩ ?_ ?_ ?_ ?_⟩
   ·exact Nat.le_of_lt (Qv4 (by omega))
   ·rintro i ys H3 ⟨h,_⟩
    exact h
   ·rintro i ys H3 hi ⟨hle,s3,hp⟩
    have e0:(0:Int)+(i:Nat)=(i:Nat):=Int.zero_add _
    rw[e0]
    have est:((List.range (i+1)).filter fun p=>!(Qj7 (x0::xs)|||Fu|||Em).testBit p)=((List.range i).filter fun p=>!(Qj7 (x0::xs)|||Fu|||Em).testBit p)++(if (Qj7 (x0::xs)|||Fu|||Em).testBit i=true then [] else [i]):=by
     rw[List.range_succ,List.filter_append]
     congr 1
     rw[List.filter_cons]
     cases (Qj7 (x0::xs)|||Fu|||Em).testBit i<;>rfl
    refine⟨rfl,?_⟩
    refine⟨_,rfl,_,rfl,_,_,rfl,rfl,by omega,_,_,rfl,rfl,rfl,_,rfl,?_⟩
    show (if decide (V.int (Builtin.bitAnd (Builtin.bitOr (Builtin.bitOr (((evr x0 (x0::xs):Nat):Int)-((alw x0 (x0::xs):Nat):Int)) ((Fu:Nat):Int)) ((Em:Nat):Int)/2^(((i:Nat):Int)).toNat) 1)=V.int 0)=true then _ else _)
    rw[eP i]
    cases hb:(Qj7 (x0::xs)|||Fu|||Em).testBit i with
    | true =>
     rw[hb]at est
     refine iteF ⟨by omega,s3,?_⟩
     rw[est,if_pos rfl,List.append_nil]
     exact hp
    | false =>
     rw[hb]at est
     refine iteT ⟨_,rfl,_,rfl,_,rfl,_,_,rfl,rfl,by omega,_,_,rfl,rfl,(by show 2≤sizeLine;decide),fun b hb'=>⟨by rw[List.length_append];simp;omega,s3.trans (Qq5 hb'),?_⟩⟩
     rw[est,if_neg Bool.false_ne_true,List.map_append]
     refine(hp.mono (TupK.of (Qq5 hb'))).snoc (f:=(i,if (alwN (x0::xs)).testBit i=true then 1 else 0)) ?_
     rw[Qq1]
     exact congrArg (fun q=>some (HO.tup [V.int ((i:Nat):Int),V.int q])) (eA i)
   rintro ys H3 ⟨hle,s3,hp⟩ lf hlf
   rw[Int.toNat_natCast]at hp hle
   have eF:(((List.range n).filter fun p=>!(Qj7 (x0::xs)|||Fu|||Em).testBit p).map fun p=>(p,if (alwN (x0::xs)).testBit p=true then 1 else 0))=Qm9 n (x0::xs) Fu Em:=rfl
   rw[eF]at hp
   have s4:Same H3 (upd H3 lf (.lst ys)):=Qq5 hlf
   have hlf4:(upd H3 lf (.lst ys)) lf=some (.lst ys):=Qq1
   generalize upd H3 lf (.lst ys)=H4 at s4 hlf4 ⊢
   have s24:=s3.trans s4
   have hl4:=s24 _ _ hl1
   have eN:∀x:Nat,Builtin.bitAnd ((x:Nat):Int) (((evr x0 (x0::xs):Nat):Int)-((alw x0 (x0::xs):Nat):Int))=((x&&&Qj7 (x0::xs):Nat):Int):=fun x=>by rw[hlo];rfl
   refine⟨_,rfl,_,rfl,l,rfl,⟨_,SqL.of hl4⟩,Qw0 (K:=K) (a:=l) (xs:=mV (x0::xs)) (fun j zs H5=>H5=H4∧zs=((x0::xs).take j).map fun x=>V.int ((x&&&Qj7 (x0::xs):Nat):Int)) ⟨rfl,rfl⟩ ?_ ?_ ?_ ?_ ?_⟩
   ·rw[Qf4];omega
   ·rintro j zs H5 ⟨_,rfl⟩
    rw[List.length_map,List.length_take]
    omega
   ·rintro j zs H5 _ ⟨rfl,_⟩
    exact SqL.of hl4
   ·rintro j y zs H5 hj ⟨rfl,rfl⟩
    unfold mV at hj
    rw[List.getElem?_map]at hj
    obtain⟨x,hx,ex⟩:=Option.map_eq_some_iff.mp hj
    subst ex
    refine⟨rfl,?_⟩
    refine⟨_,rfl,_,rfl,_,_,rfl,rfl,rfl,?_⟩
    rw[List.take_add_one,hx,List.map_append]
    exact congrArg (fun q=>_++[V.int q]) (eN x)
   rintro zs H5 ⟨rfl,rfl⟩ l2 hl2
   rw[Qf4,List.take_length]
   have eZ:((x0::xs).map fun x=>V.int ((x&&&Qj7 (x0::xs):Nat):Int))=(Qh6 (x0::xs)).2.map V.int:=by unfold Qh6;rw[List.map_map];rfl
   rw[eZ]
   have s6:Same H5 (upd H5 l2 (.lst ((Qh6 (x0::xs)).2.map V.int))):=Qq5 hl2
   have hl26:(upd H5 l2 (.lst ((Qh6 (x0::xs)).2.map V.int))) l2=some (.lst ((Qh6 (x0::xs)).2.map V.int)):=Qq1
   generalize upd H5 l2 (.lst ((Qh6 (x0::xs)).2.map V.int))=H6 at s6 hl26 ⊢
   refine⟨l2,_,rfl,.inl ⟨SqL.of hl26,fun t2 ht2=>?_⟩⟩
   have s7:Same H6 (upd H6 t2 (.tup ((Qh6 (x0::xs)).2.map V.int))):=Qq5 ht2
   have ht27:(upd H6 t2 (.tup ((Qh6 (x0::xs)).2.map V.int))) t2=some (.tup ((Qh6 (x0::xs)).2.map V.int)):=Qq1
   generalize upd H6 t2 (.tup ((Qh6 (x0::xs)).2.map V.int))=H7 at s7 ht27 ⊢
   refine⟨(by show 2≤sizeLine;decide),fun t3 ht3=>?_⟩
   have e3:(HO.tup [V.int (((evr x0 (x0::xs):Nat):Int)-((alw x0 (x0::xs):Nat):Int)),V.ref t2])=HO.tup [V.int (Qh6 (x0::xs)).1,V.ref t2]:=by rw[hlo];rfl
   have s8:Same H7 (upd H7 t3 (.tup [V.int (((evr x0 (x0::xs):Nat):Int)-((alw x0 (x0::xs):Nat):Int)),V.ref t2])):=Qq5 ht3
   have ht38:(upd H7 t3 (.tup [V.int (((evr x0 (x0::xs):Nat):Int)-((alw x0 (x0::xs):Nat):Int)),V.ref t2])) t3=some (.tup [V.int (Qh6 (x0::xs)).1,V.ref t2]):=by rw[Qq1,e3]
   dsimp only
   generalize upd H7 t3 (.tup [V.int (((evr x0 (x0::xs):Nat):Int)-((alw x0 (x0::xs):Nat):Int)),V.ref t2])=H8 at s8 ht38 ⊢
   have s48:=s6.trans (s7.trans s8)
   have hlf8:=s48 _ _ hlf4
   refine⟨_,rfl,lf,_,rfl,.inl ⟨SqL.of hlf8,fun q hq=>?_⟩⟩
   have s9:Same H8 (upd H8 q (.tup ys)):=Qq5 hq
   have hq9:(upd H8 q (.tup ys)) q=some (.tup ys):=Qq1
   generalize upd H8 q (.tup ys)=H9 at s9 hq9 ⊢
   have s09:Same H' H9:=s1.trans (s24.trans (s48.trans s9))
   have ha9:=s09 _ _ ha
   have rp9:RsP P w H9 dr rk:=⟨s09 _ _ rp.at',K12.RestsOk.mono (TupK.of s09) rp.ks,rp.num⟩
   have hf9:Zv5 H9 (Qm9 n (x0::xs) Fu Em) q:=by
    have:=hp.mono (TupK.of (s4.trans (s48.trans s9)))
    exact⟨ys,hq9,this.1,this.2⟩
   refine⟨_,rfl,a,C,dx,_,_,rfl,ha9,T.cl,T.nR,Xh0 _ _ _ _ _,dr,rk,rfl,rp9.at',rp9.ks,_,rfl,_,rfl,a,C,dx,_,_,rfl,ha9,T.cl,T.nR,Xh0 _ _ _ _ _,dr,rk,rfl,rp9.at',rp9.ks,t3,t2,Qh6 (x0::xs),rk,(rk.length:Int),rfl,rfl,s9 _ _ ht38,(s8.trans s9) _ _ ht27,rp9.at',rp9.ks,by omega,fun i hi=>?_,fun hno=>?_⟩
   ·obtain⟨j,b,hj⟩:=Xi7 hi
    have hij:=rp.num j _ hj
    replace hij:i=(j:Int):=hij
    subst hij
    refine⟨(by show 2≤sizeLine;decide),fun p hp'=>k _ (.ref p) [] (Qg2 (s09.trans (Qq5 hp'))) ?_ (by simp) ?_⟩
    ·rw[List.append_nil]
     exact⟨Qq5 hp' _ _ rp9.at',K12.RestsOk.mono (TupK.of (Qq5 hp')) rp9.ks,rp9.num⟩
    ·rw[List.append_nil]
     refine .inr ⟨by rw[hL];exact List.cons_ne_nil _ _,p,q,j,b,rfl,Qq1,?_,by rw[hL];exact hj⟩
     rw[hL]
     exact hf9.mono (TupK.of (Qq5 hp'))
   ·refine⟨(by show 2≤sizeLine;decide),fun p hp'=>k _ (.ref p) [(Qh6 (x0::xs),t3,(rk.length:Int))] ?_ ?_ (by simp) ?_⟩
    ·exact Qw4 (Qg2 s09) (Qw4 (Qn3 (by simp)) (Qg2 (Qq5 hp')))
    ·have tk:TupK H9 (upd (upd H9 dr (Qd4 P w dr (rk++[(Qh6 (x0::xs),t3,(rk.length:Int))]))) p (.tup [.ref q,.int (rk.length:Int)])):=TupK.trans (TupK.upd rp9.at' (fun xs z=>by cases z)) (TupK.of (Qq5 hp'))
     refine⟨Qq5 hp' _ _ Qq1,fun x hx=>?_,fun i x hx=>?_⟩
     ·rcases List.mem_append.mp hx with z|z
      ·exact K12.RestsOk.mono tk rp9.ks x z
      ·rw[List.mem_singleton.mp z]
       exact⟨t2,tk _ _ (s9 _ _ ht38),tk _ _ ((s8.trans s9) _ _ ht27)⟩
     ·by_cases hi:i<rk.length
      ·rw[List.getElem?_append_left hi]at hx
       exact rp.num i x hx
      ·rw[List.getElem?_append_right (by omega)]at hx
       have h0:i-rk.length=0:=by
        have:=(List.getElem?_eq_some_iff.mp hx).1
        simp at this
        omega
       rw[h0]at hx
       cases hx
       show (rk.length:Int)=(i:Int)
       omega
    ·have tk:TupK H9 (upd (upd H9 dr (Qd4 P w dr (rk++[(Qh6 (x0::xs),t3,(rk.length:Int))]))) p (.tup [.ref q,.int (rk.length:Int)])):=TupK.trans (TupK.upd rp9.at' (fun xs z=>by cases z)) (TupK.of (Qq5 hp'))
     refine .inr ⟨by rw[hL];exact List.cons_ne_nil _ _,p,q,rk.length,t3,rfl,Qq1,?_,by rw[hL,List.getElem?_append_right (Nat.le_refl _),Nat.sub_self];rfl⟩
     rw[hL]
     exact hf9.mono tk
end
section
variable {P:Program}{w:World}{K:PySem.W.Frag}{mg:Str→Option Value}{base:Heap}{C:Addr}
def keyM (F E:Nat):List Key:=[.inl (F:Int),.inl (E:Int)]
theorem Yq7 {F E F' E':Nat} (e:keyM F E=keyM F' E'):F=F'∧E=E':=by
 unfold keyM at e
 simp only[List.cons.injEq,Sum.inl.injEq]at e
 omega
def allM:List (List Key):=(List.range 16).flatMap fun F=>(List.range 16).map fun E=>keyM F E
theorem Yq8:allM.length=256:=by
 unfold allM
 simp
 decide
structure KnP (H:Hp) (dk:Addr) (rs:List Nat) (n:Nat) (rk:List RKv) (kvs:List (List Key×V)):Prop where
 at':H dk=some (.dT kvs)
 keys:∀p∈kvs,∃F E:Nat,F<16∧E<16∧p.1=keyM F E
 nd:(kvs.map (·.1)).Nodup
 val:∀(F E:Nat) (v:V),valV kvs (keyM F E)=some v→Zh0 H rs n rk F E v
theorem KnP.len {H:Hp}{dk:Addr}{rs:List Nat}{n:Nat}{rk:List RKv}{kvs:List (List Key×V)} (p:KnP H dk rs n rk kvs):kvs.length≤256:=by
 have:=List.Nodup.length_le_of_subset p.nd (l₂:=allM) fun k hk=>by
  obtain⟨x,hx,rfl⟩:=List.mem_map.mp hk
  obtain⟨F,E,h1,h2,e⟩:=p.keys x hx
  rw[e]
  exact List.mem_flatMap.mpr ⟨F,List.mem_range.mpr h1,List.mem_map.mpr ⟨E,List.mem_range.mpr h2,rfl⟩⟩
 rw[List.length_map,Yq8]at this
 exact this
structure LiP (P:Program) (w:World) (C:Addr) (H:Hp) (a dk dr:Addr) (sd num:Nat) (rs:List Nat) (n:Nat) (rk:List RKv) (kvs:List (List Key×V)):Prop where
 ln:LnP C H a dk dr sd num rs n
 rp:RsP P w H dr rk
 kn:KnP H dk rs n rk kvs
 le:rk.length≤kvs.length
theorem LiP.ne {H:Hp}{a dk dr:Addr}{sd num:Nat}{rs:List Nat}{n:Nat}{rk:List RKv}{kvs:List (List Key×V)} (p:LiP P w C H a dk dr sd num rs n rk kvs):dk≠dr:=Zw0 p.kn.at' p.rp.at' (by intro z;cases z)
theorem LiP.keep {H H':Hp}{a dk dr:Addr}{sd num:Nat}{rs:List Nat}{n:Nat}{rk:List RKv}{kvs:List (List Key×V)}{M:List Addr} (p:LiP P w C H a dk dr sd num rs n rk kvs) (k:Qz2 H H' M) (n1:dk∉M) (n2:dr∉M)
  (hM:∀m∈M,∀o,H m=some o→(∀C dx fs,o≠.ins C dx fs)∧(∀xs,o≠.tup xs)∧o≠.lst (mV (plN rs (n:Nat)))):LiP P w C H' a dk dr sd num rs n rk kvs:=by
 have tk:TupK H H':=fun b xs h=>k _ _ h fun z=>(hM _ z _ h).2.1 _ rfl
 refine⟨p.ln.keep k hM,⟨k _ _ p.rp.at' n2,K12.RestsOk.mono tk p.rp.ks,p.rp.num⟩,⟨k _ _ p.kn.at' n1,p.kn.keys,p.kn.nd,fun F E v h=>?_⟩,p.le⟩
 have:=(p.kn.val F E v h).mono tk []
 rw[List.append_nil]at this
 exact this
theorem LiP.mono {H H':Hp}{a dk dr:Addr}{sd num:Nat}{rs:List Nat}{n:Nat}{rk:List RKv}{kvs:List (List Key×V)} (p:LiP P w C H a dk dr sd num rs n rk kvs) (s:Same H H'):LiP P w C H' a dk dr sd num rs n rk kvs:=p.keep (Qg2 s) (M:=[]) (by simp) (by simp) (fun m hm=>by simp at hm)
def Zh1 (P:Program) (w:World) (C:Addr):Sp:=fun vs H Q _=>∃(a dk dr:Addr) (sd num:Nat) (rs:List Nat) (n F E:Nat) (rk:List RKv) (kvs:List (List Key×V)),vs=[.ref a,.int (F:Nat),.int (E:Nat)]∧LiP P w C H a dk dr sd num rs n rk kvs∧n≤4∧rs.length≤2∧(∀x∈plN rs (n:Nat),x<16)∧F<16∧E<16 ∧
 ∀H' val mo kvs',Qz2 H H' [dk,dr]→LiP P w C H' a dk dr sd num rs n (rk++mo) kvs'→Zh0 H' rs n (rk++mo) F E val→Q val H'
theorem Zu2:FnScope ["self","full","empty","marks"] ["self","full","empty"] (Qz0 Ql3):=⟨rfl,rfl,rfl,by decide +kernel,rfl,by decide +kernel,by decide +kernel⟩
theorem Xh2 {f:Addr}{fd:FuncData} (F:Fun K "seen" "Line.seen" Ql3 f fd) (T:LT K C) (m_reckoned:Method P w K mg base CX0 C "reckoned" 1 ["self","full","empty"] (Zl4 P w C)):FnOk P w K mg base CX0 2 f fd ["self","full","empty"] (Zh1 P w C):=by
 refine F.ok Zu2 (fun vs H Q E h=>?_) (fun cdv A outer s H vs Q E hr h=>?_)
 ·obtain⟨a,dk,dr,sd,num,rs,n,F,E',rk,kvs,rfl,_⟩:=h
  rfl
 ·obtain⟨a,dk,dr,sd,num,rs,n,Fu,Em,rk,kvs,rfl,lp,hn,hrs,h16,hF,hE,k⟩:=h
  have hu:(A.deeper (PyProof.Rows.envOfC "Line.seen" (Qz0 Ql3) s.heap.objs.size f cdv)).units+1<cLine:=by have:=Qt0 hr;omega
  refine⟨_,(Qq4 (Qz6 (i:=3) Zu2.nd rfl (Or.inl rfl) (Qy9 (Qq0 (pv 1) (Qq0 (pv 2) Qq3))))
   (Qs4 (Qk1 (Xc3 (Xs1 hu (pv 3) (Qx4 (pv 0) rfl)))
   (Qq8 (Xf2 hu (Qx4 (pv 0) rfl) (pv 3) (Qp0 m_reckoned (pv 0) hr (Qq0 (pv 1) (Qq0 (pv 2) Qq3))) rfl))
   Qx8)
   (Qq8 (Qz9 (Xf1 hu (Qx4 (pv 0) rfl) (pv 3) (fun _ _=>rfl)))))),?_⟩
  have nkr:=lp.ne
  have hlen:=lp.kn.len
  have hle:=lp.le
  have hbig:8000≤sizeLine:=by decide
  refine⟨_,rfl,_,rfl,(by show 2≤sizeLine;decide),fun t ht=>?_⟩
  have s1:Same H (upd H t (.tup [.int (Fu:Nat),.int (Em:Nat)])):=Qq5 ht
  have ht1:(upd H t (.tup [.int (Fu:Nat),.int (Em:Nat)])) t=some (.tup [.int (Fu:Nat),.int (Em:Nat)]):=Qq1
  generalize upd H t (.tup [.int (Fu:Nat),.int (Em:Nat)])=H1 at s1 ht1 ⊢
  have lp1:=lp.mono s1
  obtain⟨dx,sh,lc,ha,hsh,hlc⟩:=lp1.ln.ex
  refine⟨fun σ' H'=>σ'=[some (.ref a),some (.int (Fu:Nat)),some (.int (Em:Nat)),some (.ref t)]∧H' t=some (.tup [.int (Fu:Nat),.int (Em:Nat)])∧∃val mo kvs',Qz2 H H' [dk,dr]∧LiP P w C H' a dk dr sd num rs n (rk++mo) kvs'∧valV kvs' (keyM Fu Em)=some val,?_,?_⟩
  ·refine⟨_,rfl,_,rfl,a,C,dx,_,_,rfl,ha,T.cl,T.nK,Zs7 _ _ _ _ _,dk,_,rfl,DGet.t lp1.kn.at' (k:=keyM Fu Em) ht1,_,rfl,?_⟩
   cases hv:valV kvs (keyM Fu Em) with
   | some val =>
    refine iteF ⟨rfl,ht1,val,[],kvs,Qg2 s1,by rw[List.append_nil];exact lp1,hv⟩
   | none =>
    refine iteT ⟨_,rfl,a,dx,_,rfl,ha,Xh1 _ _ _ _ _ (by decide +kernel) (by decide +kernel) (by decide +kernel) (by decide +kernel) (by decide +kernel),_,rfl,_,rfl,a,dk,dr,sd,num,rs,n,Fu,Em,rk,rfl,lp1.ln,lp1.rp,hn,hrs,h16,by omega,fun H2 val mo k2 rp2 hmo sn2=>?_⟩
    have nd:∀m∈[dr],∀o,H1 m=some o→(∀C dx fs,o≠.ins C dx fs)∧(∀xs,o≠.tup xs)∧o≠.lst (mV (plN rs (n:Nat))):=fun m hm o ho=>by
     rw[List.mem_singleton.mp hm,lp1.rp.at']at ho
     cases ho
     exact⟨fun _ _ _ z=>(by cases z),fun _ z=>(by cases z),fun z=>(by cases z)⟩
    have tk2:TupK H1 H2:=fun b xs h=>k2 _ _ h fun z=>(nd _ z _ h).2.1 _ rfl
    have ln2:=lp1.ln.keep k2 nd
    have hk2:H2 dk=some (.dT kvs):=k2 _ _ lp1.kn.at' (by simpa using nkr)
    have ht2:H2 t=some (.tup [.int (Fu:Nat),.int (Em:Nat)]):=tk2 _ _ ht1
    obtain⟨dx2,sh2,lc2,ha2,hsh2,hlc2⟩:=ln2.ex
    refine⟨_,rfl,a,C,dx2,_,_,rfl,ha2,T.cl,T.nK,Zs7 _ _ _ _ _,_,rfl,dk,_,rfl,DPut.t hk2 (k:=keyM Fu Em) ht2 (by omega),?_⟩
    have s3k:Qz2 H2 (upd H2 dk (.dT (putK kvs (keyM Fu Em) val))) [dk]:=Qn3 (by simp)
    have hM3:∀m∈[dk],∀o,H2 m=some o→(∀C dx fs,o≠.ins C dx fs)∧(∀xs,o≠.tup xs)∧o≠.lst (mV (plN rs (n:Nat))):=fun m hm o ho=>by
     rw[List.mem_singleton.mp hm,hk2]at ho
     cases ho
     exact⟨fun _ _ _ z=>(by cases z),fun _ z=>(by cases z),fun z=>(by cases z)⟩
    have tk3:TupK H2 (upd H2 dk (.dT (putK kvs (keyM Fu Em) val))):=TupK.upd hk2 (fun xs z=>by cases z)
    refine⟨rfl,tk3 _ _ ht2,val,mo,putK kvs (keyM Fu Em) val,?_,⟨ln2.keep s3k hM3,⟨by rw[Qz1 (Ne.symm nkr)];exact rp2.at',K12.RestsOk.mono tk3 rp2.ks,rp2.num⟩,⟨Qq1,fun p hp=>?_,Yv6 val lp.kn.nd hv,fun F' E' v' hv'=>?_⟩,?_⟩,by rw[Zr6,if_pos rfl]⟩
    ·exact Qw4 (Qg2 s1) (Qw4 (Qu0 k2 (by simp)) (Qu0 s3k (by simp)))
    ·rw[Zr7 val hv]at hp
     rcases List.mem_append.mp hp with z|z
     ·exact lp.kn.keys p z
     ·rw[List.mem_singleton.mp z]
      exact⟨Fu,Em,hF,hE,rfl⟩
    ·rw[Zr6]at hv'
     split at hv'
     ·rename_i e
      cases hv'
      obtain⟨rfl,rfl⟩:=Yq7 e
      have:=sn2.mono tk3 []
      rw[List.append_nil]at this
      exact this
     ·exact(lp1.kn.val F' E' v' hv').mono (tk2.trans tk3) mo
    ·rw[Zr7 val hv,List.length_append,List.length_append]
     simp only[List.length_singleton]
     omega
  ·rintro σ' H' ⟨rfl,ht',val,mo,kvs',k',lp',hv'⟩
   obtain⟨dx',sh',lc',ha',_,_⟩:=lp'.ln.ex
   have hg:=DGet.t lp'.kn.at' (k:=keyM Fu Em) ht'
   rw[hv']at hg
   exact⟨_,rfl,a,C,dx',_,_,rfl,ha',T.cl,T.nK,Zs7 _ _ _ _ _,_,rfl,dk,val,rfl,hg,k H' val mo kvs' k' lp' (lp'.kn.val Fu Em val hv')⟩
end
section
variable {P:Program}{w:World}{K:PySem.W.Frag}{mg:Str→Option Value}{base:Heap}{C:Addr}
def Zv6 (P:Program) (w:World) (C:Addr):Sp:=fun vs H Q _=>∃(x dx t:Addr) (sd num:Nat) (rs:List Nat) (n:Nat),vs=[.ref x,.str (Qu6 sd),.int (num:Nat),.ref t,.int (n:Nat)]∧H x=some (.ins C dx [])∧H t=some (.tup (Qy0 rs))∧rs.length≤2∧(∀k∈rs,k≤500)∧n≤4 ∧
 ∀H' dk dr dx' sh lc,Qz2 H H' [x]→H dk=none→H dr=none→H' x=some (.ins C dx' (Qf1 sh n lc dk dr))→H lc=none→LiP P w C H' x dk dr sd num rs n [] []→Q .non H'
theorem Qa7 {H:Hp}{x:Addr}{o:HO}:Qz2 H (upd H x o) [x]:=Qn3 (by simp)
theorem Zs9:FnScope ["self","kind","number","runs","length"] ["self","kind","number","runs","length"] (Qz0 Qp6):=⟨rfl,rfl,rfl,by decide +kernel,rfl,by decide +kernel,by decide +kernel⟩
theorem Zn0 {f:Addr}{fd:FuncData} (F:Fun K "__init__" "Line.__init__" Qp6 f fd) (T:LT K C) (c_packed_layings:Callee P w K mg base CX0 "packed_layings" 3 ["runs","length"] (Xv1 2)):FnOk P w K mg base CX0 4 f fd ["self","kind","number","runs","length"] (Zv6 P w C):=by
 refine F.ok Zs9 (fun vs H Q E h=>?_) (fun cdv A outer s H vs Q E hr h=>?_)
 ·obtain⟨x,dx,t,sd,num,rs,n,rfl,_⟩:=h
  rfl
 ·obtain⟨x,dx,t,sd,num,rs,n,rfl,hx,ht,hrs,hk5,hn,k⟩:=h
  refine⟨_,(Qq4 (Ql9 (pv 0) (Qy9 (Qq0 Qy7 (Qq0 (pv 1) (Qq0 (pv 2) Qq3)))) rfl)
   (Qq4 (Ql9 (pv 0) (pv 4) rfl)
   (Qq4 (Ql9 (pv 0) (Qj6 c_packed_layings hr (Qq0 (pv 3) (Qq0 (pv 4) Qq3))) rfl)
   (Qq4 (Ql9 (pv 0) Xy3 rfl)
   (Qq8 (Ql9 (pv 0) Xo6 rfl)))))),?_⟩
  have l0:([]:List (Str×V)).length=0:=rfl
  have nxt:t≠x:=Zw0 ht hx (by intro z;cases z)
  refine⟨_,rfl,_,rfl,(by show 3≤sizeLine;decide),fun sh hsh=>?_⟩
  have s1:Same H (upd H sh (.tup [.str "shut",.str (Qu6 sd),.int (num:Nat)])):=Qq5 hsh
  have hsh1:(upd H sh (.tup [.str "shut",.str (Qu6 sd),.int (num:Nat)])) sh=some (.tup [.str "shut",.str (Qu6 sd),.int (num:Nat)]):=Qq1
  generalize upd H sh (.tup [.str "shut",.str (Qu6 sd),.int (num:Nat)])=H1 at s1 hsh1 ⊢
  have hx1:=s1 _ _ hx
  have nsx:sh≠x:=Zw0 hsh1 hx1 (by intro z;cases z)
  have l1:=Qg3 "shut" (V.ref sh) []
  refine⟨_,rfl,x,C,dx,_,rfl,hx1,T.cl,T.nS,(by show 0<1000;decide),?_⟩
  have k2:Qz2 H1 (upd H1 x (.ins C dx (putF "shut" (.ref sh) []))) [x]:=Qa7
  have hx2:(upd H1 x (.ins C dx (putF "shut" (.ref sh) []))) x=some (.ins C dx (putF "shut" (.ref sh) [])):=Qq1
  generalize upd H1 x (.ins C dx (putF "shut" (.ref sh) []))=H2 at k2 hx2 ⊢
  have l2:=Qg3 "length" (V.int (n:Nat)) (putF "shut" (V.ref sh) [])
  refine⟨_,rfl,_,rfl,x,C,dx,_,rfl,hx2,T.cl,T.nL,(by omega),?_⟩
  have k3:Qz2 H2 (upd H2 x (.ins C dx (putF "length" (.int (n:Nat)) (putF "shut" (.ref sh) [])))) [x]:=Qa7
  have hx3:(upd H2 x (.ins C dx (putF "length" (.int (n:Nat)) (putF "shut" (.ref sh) [])))) x=some (.ins C dx (putF "length" (.int (n:Nat)) (putF "shut" (.ref sh) []))):=Qq1
  generalize upd H2 x (.ins C dx (putF "length" (.int (n:Nat)) (putF "shut" (.ref sh) [])))=H3 at k3 hx3 ⊢
  have k03:Qz2 H H3 [x]:=Qw4 (Qg2 s1) (Qw4 k2 k3)
  have ht3:H3 t=some (.tup (Qy0 rs)):=k03 _ _ ht (by simpa using nxt)
  have hsh3:H3 sh=some (.tup [.str "shut",.str (Qu6 sd),.int (num:Nat)]):=Qw4 k2 k3 _ _ hsh1 (by simpa using nsx)
  refine⟨_,rfl,_,rfl,t,rs,(n:Nat),rfl,ht3,hrs,Nat.le_refl _,hk5,by omega,by omega,fun lc H4 s4 nlc hlc=>?_⟩
  have l3:=Qg3 "choices" (V.ref lc) (putF "length" (V.int (n:Nat)) (putF "shut" (V.ref sh) []))
  refine⟨_,rfl,x,C,dx,_,rfl,s4 _ _ hx3,T.cl,T.nC,(by omega),?_⟩
  have hlx:lc≠x:=fun e=>by rw[e,hx3]at nlc;cases nlc
  have k5:Qz2 H4 (upd H4 x (.ins C dx (putF "choices" (.ref lc) (putF "length" (.int (n:Nat)) (putF "shut" (.ref sh) []))))) [x]:=Qa7
  have hx5:(upd H4 x (.ins C dx (putF "choices" (.ref lc) (putF "length" (.int (n:Nat)) (putF "shut" (.ref sh) []))))) x=some (.ins C dx (putF "choices" (.ref lc) (putF "length" (.int (n:Nat)) (putF "shut" (.ref sh) [])))):=Qq1
  generalize upd H4 x (.ins C dx (putF "choices" (.ref lc) (putF "length" (.int (n:Nat)) (putF "shut" (.ref sh) []))))=H5 at k5 hx5 ⊢
  have hlc5:H5 lc=some (.lst (mV (plN rs (n:Nat)))):=k5 _ _ hlc (by simpa using hlx)
  have hsh5:=k5 _ _ (s4 _ _ hsh3) (by simpa using nsx)
  have k05:Qz2 H H5 [x]:=Qw4 k03 (Qw4 (Qg2 s4) k5)
  refine fun dk hdk=>?_
  have ndx:dk≠x:=fun e=>by rw[e,hx5]at hdk;cases hdk
  have l4:=Qg3 "known" (V.ref dk) (putF "choices" (V.ref lc) (putF "length" (V.int (n:Nat)) (putF "shut" (V.ref sh) [])))
  have s6:Same H5 (upd H5 dk (.dT [])):=Qq5 hdk
  have hdk6:(upd H5 dk (.dT [])) dk=some (.dT []):=Qq1
  generalize upd H5 dk (.dT [])=H6 at s6 hdk6 ⊢
  refine⟨_,rfl,x,C,dx,_,rfl,s6 _ _ hx5,T.cl,T.nK,(by omega),?_⟩
  have k7:Qz2 H6 (upd H6 x (.ins C dx (putF "known" (.ref dk) (putF "choices" (.ref lc) (putF "length" (.int (n:Nat)) (putF "shut" (.ref sh) [])))))) [x]:=Qa7
  have hx7:(upd H6 x (.ins C dx (putF "known" (.ref dk) (putF "choices" (.ref lc) (putF "length" (.int (n:Nat)) (putF "shut" (.ref sh) [])))))) x=some (.ins C dx (putF "known" (.ref dk) (putF "choices" (.ref lc) (putF "length" (.int (n:Nat)) (putF "shut" (.ref sh) []))))):=Qq1
  generalize upd H6 x (.ins C dx (putF "known" (.ref dk) (putF "choices" (.ref lc) (putF "length" (.int (n:Nat)) (putF "shut" (.ref sh) [])))))=H7 at k7 hx7 ⊢
  have hdk7:=k7 _ _ hdk6 (by simpa using ndx)
  refine fun dr hdr=>?_
  have nrx:dr≠x:=fun e=>by rw[e,hx7]at hdr;cases hdr
  have nkd:dk≠dr:=Qk4 hdk7 hdr
  have s8:Same H7 (upd H7 dr (Qd4 P w dr [])):=Qq5 hdr
  have hdr8:(upd H7 dr (Qd4 P w dr [])) dr=some (Qd4 P w dr []):=Qq1
  refine⟨_,rfl,x,C,dx,_,rfl,s8 _ _ hx7,T.cl,T.nR,(by omega),?_⟩
  have k57:Qz2 H5 H7 [x]:=Qw4 (Qg2 s6) k7
  have k9:Qz2 H7 (upd (upd H7 dr (Qd4 P w dr [])) x (.ins C dx (Qf1 sh n lc dk dr))) [x]:=Qw4 (Qg2 s8) Qa7
  have k07:=Qw4 k05 k57
  have none_of:∀(y:Addr) (Hm:Hp),Qz2 H Hm [x]→Hm y=none→y≠x→H y=none:=fun y Hm km hy ny=>by
   cases q:H y with
   | none=>rfl
   | some o=>rw[km y o q (by simpa using ny)]at hy;cases hy
  refine k _ dk dr dx sh lc (Qw4 k07 k9) (none_of dk H5 k05 hdk ndx) (none_of dr H7 k07 hdr nrx) Qq1 (none_of lc H3 k03 nlc hlx) ⟨⟨dx,sh,lc,Qq1,?_,?_⟩,⟨?_,fun p hp=>by simp at hp,fun i x hx=>by simp at hx⟩,⟨?_,fun p hp=>by simp at hp,List.nodup_nil,fun F E v hv=>by cases hv⟩,Nat.le_refl _⟩
  ·exact k9 _ _ (k57 _ _ hsh5 (by simpa using nsx)) (by simpa using nsx)
  ·exact k9 _ _ (k57 _ _ hlc5 (by simpa using hlx)) (by simpa using hlx)
  ·rw[Qz1 nrx]
   exact hdr8
  ·exact k9 _ _ hdk7 (by simpa using ndx)
end
section
variable {h w:Nat}{b:Brd}{l:Nat×Nat}
def Qu7 (u:View) (l:Nat×Nat) (fs:List (Nat×Nat)):View:=fs.foldl (fun v f=>setC v (posL l f.1).1 (posL l f.1).2 (some (f.2:Int))) u
theorem Za9 (u:View) (l:Nat×Nat) (fs:List (Nat×Nat)) (f:Nat×Nat):Qu7 u l (fs++[f])=setC (Qu7 u l fs) (posL l f.1).1 (posL l f.1).2 (some (f.2:Int)):=by unfold Qu7;rw[List.foldl_append];rfl
theorem Forced.next {v:View} (ob:BOk h w b) (ov:VOk h w v) {p q:Nat}{z y:Int} (F:Forced h w b v l p z) (G:Forced h w b v l q y) (ne:p≠q):Forced h w b (setC v (posL l p).1 (posL l p).2 (some z)) l q y:=by
 obtain⟨hr,hc⟩:=Qd0 F.hl F.hp
 refine⟨G.hl,G.hp,?_,G.bit,fun x hx=>G.all x ((F.same ob ov x).mp hx)⟩
 unfold Qy2
 rw[Qk8 ov hr hc,if_neg (fun e=>ne (Zs0 (l:=l) (Prod.ext e.1 e.2)).symm)]
 exact G.op
theorem Zc7 {u:View} (ob:BOk h w b) (ou:VOk h w u) {fs:List (Nat×Nat)} (nd:(fs.map (·.1)).Nodup) (hf:∀f∈fs,Forced h w b u l f.1 f.2):∀j,j≤fs.length →
  VOk h w (Qu7 u l (fs.take j))∧(∀f∈fs.drop j,Forced h w b (Qu7 u l (fs.take j)) l f.1 f.2)∧(∀x,x∈Qj8 b l (Qu7 u l (fs.take j))↔x∈Qj8 b l u) ∧
   (∀p,p<lenL h w l→(Qy2 (Qu7 u l (fs.take j)) l p↔Qy2 u l p∧p∉(fs.take j).map (·.1)))∧unk (Qu7 u l (fs.take j))+j≤unk u
 | 0,_=>by
  rw[List.take_zero,List.drop_zero]
  exact⟨ou,hf,fun x=>Iff.rfl,fun p _=>⟨fun q=>⟨q,by simp⟩,fun q=>q.1⟩,Nat.le_refl _⟩
 | j+1,hj=>by
  obtain⟨o,a1,a2,a3,a4⟩:=Zc7 ob ou nd hf j (by omega)
  have hj':j<fs.length:=by omega
  have ed:fs.drop j=fs[j]::fs.drop (j+1):=List.drop_eq_getElem_cons hj'
  have et:fs.take (j+1)=fs.take j++[fs[j]]:=by rw[List.take_add_one,List.getElem?_eq_getElem hj'];rfl
  have F0:=a1 fs[j] (by rw[ed];exact List.mem_cons_self ..)
  rw[et,Za9]
  generalize hv:Qu7 u l (fs.take j)=v at o a1 a2 a3 a4 F0
  obtain⟨hr,hc⟩:=Qd0 F0.hl F0.hp
  have ndd:((fs.drop j).map (·.1)).Nodup:=by
   have:=nd.sublist ((List.drop_sublist j fs).map (·.1))
   exact this
  rw[ed,List.map_cons]at ndd
  refine⟨o.setC hr F0.sm,fun f hf'=>F0.next ob o (a1 f (by rw[ed];exact List.mem_cons_of_mem _ hf')) (fun e=>?_),fun x=>(F0.same ob o x).trans (a2 x),fun p hp=>?_,?_⟩
  ·exact(List.nodup_cons.mp ndd).1 (List.mem_map.mpr ⟨f,hf',e.symm⟩)
  ·rw[List.map_append,List.mem_append]
   unfold Qy2
   rw[Qk8 o hr hc]
   have a3p:=a3 p hp
   unfold Qy2 at a3p
   by_cases e:p=fs[j].1
   ·rw[if_pos (by rw[e];exact⟨rfl,rfl⟩)]
    constructor
    ·intro z;cases z
    ·intro z;exact absurd (.inr (by rw[e];simp)) z.2
   ·rw[if_neg (fun q=>e (Zs0 (l:=l) (Prod.ext q.1 q.2)))]
    rw[a3p]
    constructor
    ·rintro⟨q1,q2⟩
     exact⟨q1,fun z=>z.elim q2 (fun z=>e (by simpa using z))⟩
    ·rintro⟨q1,q2⟩
     exact⟨q1,fun z=>q2 (.inl z)⟩
  ·have:=Zg4 o (o.setC hr F0.sm) (Qr8 o hr hc F0.op) hr hc F0.op (by rw[Qk8 o hr hc,if_pos ⟨rfl,rfl⟩];exact fun z=>nomatch z)
   omega
theorem Xi9 {u:View} (ob:BOk h w b) (ou:VOk h w u) (hh:h≤4) (hw:w≤4) (hl:LOk h w l) (hne:Qj9 h w b u l≠[]) {v:View} (o:VOk h w v) (hlay:∀x,x∈Qj8 b l v↔x∈Qj8 b l u)
  (hop:∀p,p<lenL h w l→(Qy2 v l p↔Qy2 u l p∧p∉(Qm9 (lenL h w l) (Qj9 h w b u l) (Qz3 (Qq7 u l.1 l.2) 1) (Qz3 (Qq7 u l.1 l.2) 0)).map (·.1))):Calm h w b v l:=by
 refine⟨fun e=>?_,fun p hp ho=>?_⟩
 ·have:=(Zm9 ob ou hh hw hl).mpr (by
   cases q:Qj8 b l u with
   | nil=>rfl
   | cons x xs =>
    have:=(hlay x).mpr (by rw[q];exact List.mem_cons_self ..)
    rw[e]at this
    cases this)
  exact hne this
 ·obtain⟨ho',hno⟩:=(hop p hp).mp ho
  have hlo:(Qj7 (Qj9 h w b u l)).testBit p=true:=by
   cases q:(Qj7 (Qj9 h w b u l)).testBit p with
   | true=>rfl
   | false =>
    exfalso
    apply hno
    unfold Qm9
    rw[List.map_map]
    refine List.mem_map.mpr ⟨p,List.mem_filter.mpr ⟨List.mem_range.mpr hp,?_⟩,rfl⟩
    have:=(Zs4 ou hl hp).mpr ho'
    rw[Bool.not_eq_true',Nat.testBit_or,Nat.testBit_or,Bool.or_assoc,q,Bool.false_or,←Nat.testBit_or]
    exact this
  obtain⟨y,hy,z,hz,ne⟩:=(Zp0 (Zs3 ob hh hw hl) p).mp hlo
  obtain⟨c,hc,rfl⟩:=(Qp1 ob ou hh hw hl y).mp hy
  obtain⟨d,hd,rfl⟩:=(Qp1 ob ou hh hw hl z).mp hz
  refine⟨c,(hlay c).mpr hc,d,(hlay d).mpr hd,fun e=>ne ?_⟩
  rw[Qy6,Qy6,e]
theorem Xl5 (n:Nat) (L:List Nat) (F E:Nat):((Qm9 n L F E).map (·.1)).Nodup:=by
 unfold Qm9
 rw[List.map_map]
 have:((List.range n).filter fun p=>!(Qj7 L|||F|||E).testBit p).map ((·.1)∘fun p=>(p,if (alwN L).testBit p=true then 1 else 0))=(List.range n).filter fun p=>!(Qj7 L|||F|||E).testBit p:=by
  conv=>rhs;rw[←List.map_id ((List.range n).filter fun p=>!(Qj7 L|||F|||E).testBit p)]
  rfl
 rw[this]
 exact List.nodup_range.sublist List.filter_sublist
end
section
variable {P:Program}{w:World}{K:PySem.W.Frag}{mg:Str→Option Value}{base:Heap}{C CS CL:Addr}
structure ST (K:PySem.W.Frag) (C:Addr):Prop where
 cl:Cls K C
 nR:Qg5 K C "rows"
 nC:Qg5 K C "columns"
 nL:Qg5 K C "lines"
 nP:Qg5 K C "pictures"
 nB:Qg5 K C "barren"
def Qb8 (h w':Nat) (ll lp db:Addr):List (Str×V):=putF "barren" (.ref db) (putF "pictures" (.ref lp) (putF "lines" (.ref ll) (putF "columns" (.int (w':Nat)) (putF "rows" (.int (h:Nat)) []))))
theorem Zu3 (h w':Nat) (ll lp db:Addr):(Qb8 h w' ll lp db).lookup ("barren" : Str)=some (.ref db):=by unfold Qb8;rw[Qq9,if_pos rfl]
theorem Qr9 (h w':Nat) (ll lp db:Addr):(Qb8 h w' ll lp db).lookup ("pictures" : Str)=some (.ref lp):=by
 unfold Qb8;rw[Qq9,if_neg (by decide +kernel),Qq9,if_pos rfl]
theorem Zp2 (h w':Nat) (ll lp db:Addr):(Qb8 h w' ll lp db).lookup ("lines" : Str)=some (.ref ll):=by
 unfold Qb8;rw[Qq9,if_neg (by decide +kernel),Qq9,if_neg (by decide +kernel),Qq9,if_pos rfl]
theorem Zx7 (h w':Nat) (ll lp db:Addr):(Qb8 h w' ll lp db).lookup ("columns" : Str)=some (.int (w':Nat)):=by
 unfold Qb8;rw[Qq9,if_neg (by decide +kernel),Qq9,if_neg (by decide +kernel),Qq9,if_neg (by decide +kernel),Qq9,if_pos rfl]
theorem Qo9 (h w':Nat) (ll lp db:Addr):(Qb8 h w' ll lp db).lookup ("rows" : Str)=some (.int (h:Nat)):=by
 unfold Qb8;rw[Qq9,if_neg (by decide +kernel),Qq9,if_neg (by decide +kernel),Qq9,if_neg (by decide +kernel),Qq9,if_neg (by decide +kernel),Qq9,if_pos rfl]
theorem Zv7 (h w':Nat) (ll lp db:Addr) {m:Str} (h1:¬m = "barren") (h2:¬m = "pictures") (h3:¬m = "lines") (h4:¬m = "columns") (h5:¬m = "rows"):(Qb8 h w' ll lp db).lookup m=none:=by
 unfold Qb8;rw[Qq9,if_neg h1,Qq9,if_neg h2,Qq9,if_neg h3,Qq9,if_neg h4,Qq9,if_neg h5];rfl
structure SAd where
 S:Addr
 ll:Addr
 lp:Addr
 db:Addr
 las:List Addr
 lcs:List Addr
 dks:List Addr
 drs:List Addr
theorem LiP.keepA {H H':Hp}{a dk dr:Addr}{sd num:Nat}{rs:List Nat}{n:Nat}{rk:List RKv}{kvs:List (List Key×V)}{M:List Addr}{dx sh lc:Addr} (p:LiP P w C H a dk dr sd num rs n rk kvs) (hc:H a=some (.ins C dx (Qf1 sh n lc dk dr))) (k:Qz2 H H' M)
  (na:a∉M) (nc:lc∉M) (n1:dk∉M) (n2:dr∉M) (ht:∀m∈M,∀xs,H m≠some (.tup xs)):LiP P w C H' a dk dr sd num rs n rk kvs:=by
 have tk:TupK H H':=fun b xs h=>k _ _ h fun z=>ht _ z _ h
 obtain⟨dx',sh',lc',h1,h2,h3⟩:=p.ln.ex
 have elc:lc'=lc:=by
  rw[hc]at h1
  have e:=(HO.ins.inj (Option.some.inj h1)).2.2
  have:=congrArg (fun fs=>List.lookup ("choices" : Str) fs) e
  simp only[Qn4]at this
  exact(V.ref.inj (Option.some.inj this)).symm
 subst elc
 refine⟨⟨dx',sh',lc',k _ _ h1 na,tk _ _ h2,k _ _ h3 nc⟩,⟨k _ _ p.rp.at' n2,K12.RestsOk.mono tk p.rp.ks,p.rp.num⟩,⟨k _ _ p.kn.at' n1,p.kn.keys,p.kn.nd,fun F E v h=>?_⟩,p.le⟩
 have:=(p.kn.val F E v h).mono tk []
 rw[List.append_nil]at this
 exact this
structure LnAt (P:Program) (w:World) (CL:Addr) (H:Hp) (ad:SAd) (h w':Nat) (b:Brd) (rks:List (List RKv)) (i:Nat) (a lc dk dr:Addr) (rk:List RKv):Prop where
 ea:ad.las[i]?=some a
 ec:ad.lcs[i]?=some lc
 ek:ad.dks[i]?=some dk
 er:ad.drs[i]?=some dr
 ers:rks[i]?=some rk
 ins:∃dx sh,H a=some (.ins CL dx (Qf1 sh (lenL h w' (Qq2 h i)) lc dk dr))
 li:∃kvs,LiP P w CL H a dk dr (Qq2 h i).1 (Qq2 h i).2 (Qw8 b (Qq2 h i).1 (Qq2 h i).2) (lenL h w' (Qq2 h i)) rk kvs
structure ShP (P:Program) (w:World) (CS CL:Addr) (H:Hp) (ad:SAd) (h w':Nat) (b:Brd) (rks:List (List RKv)):Prop where
 ins:∃dx,H ad.S=some (.ins CS dx (Qb8 h w' ad.ll ad.lp ad.db))
 lst:H ad.ll=some (.lst (ad.las.map V.ref))
 len:ad.las.length=h+w'
 lrk:rks.length=h+w'
 lk:ad.dks.length=h+w'
 lr:ad.drs.length=h+w'
 lc:ad.lcs.length=h+w'
 line:∀i,i<h+w'→∃a lc dk dr rk,LnAt P w CL H ad h w' b rks i a lc dk dr rk
 ndk:ad.dks.Nodup
 ndr:ad.drs.Nodup
 nlp:ad.lp≠ad.ll∧ad.lp∉ad.lcs
 ndb:ad.db∉ad.dks
def fixS (ad:SAd):List Addr:=ad.S::ad.ll::(ad.las++ad.lcs)
def dicS (ad:SAd):List Addr:=ad.dks++ad.drs
theorem ShP.keep {H H':Hp}{ad:SAd}{h w':Nat}{b:Brd}{rks:List (List RKv)}{M:List Addr} (p:ShP P w CS CL H ad h w' b rks) (k:Qz2 H H' M) (n1:∀m∈M,m∉fixS ad) (n2:∀m∈M,m∉dicS ad) (ht:∀m∈M,∀xs,H m≠some (.tup xs)):ShP P w CS CL H' ad h w' b rks:=by
 obtain⟨dx,hS⟩:=p.ins
 refine⟨⟨dx,k _ _ hS fun z=>n1 _ z (by unfold fixS;simp)⟩,k _ _ p.lst fun z=>n1 _ z (by unfold fixS;simp),p.len,p.lrk,p.lk,p.lr,p.lc,fun i hi=>?_,p.ndk,p.ndr,p.nlp,p.ndb⟩
 obtain⟨a,lc,dk,dr,rk,q⟩:=p.line i hi
 obtain⟨dx',sh,hc⟩:=q.ins
 obtain⟨kvs,li⟩:=q.li
 have na:a∉M:=fun z=>n1 _ z (by unfold fixS;simp[List.mem_of_getElem? q.ea])
 have nc:lc∉M:=fun z=>n1 _ z (by unfold fixS;simp[List.mem_of_getElem? q.ec])
 have nk:dk∉M:=fun z=>n2 _ z (by unfold dicS;simp[List.mem_of_getElem? q.ek])
 have nr:dr∉M:=fun z=>n2 _ z (by unfold dicS;simp[List.mem_of_getElem? q.er])
 exact⟨a,lc,dk,dr,rk,q.ea,q.ec,q.ek,q.er,q.ers,⟨dx',sh,k _ _ hc na⟩,kvs,li.keepA hc k na nc nk nr ht⟩
theorem ShP.dic {H:Hp}{ad:SAd}{h w':Nat}{b:Brd}{rks:List (List RKv)} (p:ShP P w CS CL H ad h w' b rks) {m:Addr} (hm:m∈dicS ad):(∃kvs,H m=some (.dT kvs))∨∃rk,H m=some (Qd4 P w m rk):=by
 rcases List.mem_append.mp hm with z|z
 ·obtain⟨i,hi,e⟩:=List.getElem_of_mem z
  obtain⟨a,lc,dk,dr,rk,q⟩:=p.line i (by rw[←p.lk];exact hi)
  obtain⟨kvs,li⟩:=q.li
  have:=q.ek
  rw[List.getElem?_eq_getElem hi,e]at this
  cases this
  exact .inl ⟨kvs,li.kn.at'⟩
 ·obtain⟨i,hi,e⟩:=List.getElem_of_mem z
  obtain⟨a,lc,dk,dr,rk,q⟩:=p.line i (by rw[←p.lr];exact hi)
  obtain⟨kvs,li⟩:=q.li
  have:=q.er
  rw[List.getElem?_eq_getElem hi,e]at this
  cases this
  exact .inr ⟨rk,li.rp.at'⟩
theorem ShP.nol {H:Hp}{ad:SAd}{h w':Nat}{b:Brd}{rks:List (List RKv)} (p:ShP P w CS CL H ad h w' b rks) {x:Addr}{xs:List V} (hx:H x=some (.lst xs)):x∉dicS ad:=fun z=>by
 rcases p.dic z with ⟨kvs,e⟩|⟨rk,e⟩
 ·rw[hx]at e;cases e
 ·rw[hx]at e;cases e
theorem ShP.noi {H:Hp}{ad:SAd}{h w':Nat}{b:Brd}{rks:List (List RKv)} (p:ShP P w CS CL H ad h w' b rks) {x C dx:Addr}{fs:List (Str×V)} (hx:H x=some (.ins C dx fs)):x∉dicS ad:=fun z=>by
 rcases p.dic z with ⟨kvs,e⟩|⟨rk,e⟩
 ·rw[hx]at e;cases e
 ·rw[hx]at e;cases e
theorem ShP.not {H:Hp}{ad:SAd}{h w':Nat}{b:Brd}{rks:List (List RKv)} (p:ShP P w CS CL H ad h w' b rks) {x:Addr}{xs:List V} (hx:H x=some (.tup xs)):x∉dicS ad:=fun z=>by
 rcases p.dic z with ⟨kvs,e⟩|⟨rk,e⟩
 ·rw[hx]at e;cases e
 ·rw[hx]at e;cases e
theorem ShP.put {H:Hp}{ad:SAd}{h w':Nat}{b:Brd}{rks:List (List RKv)} (p:ShP P w CS CL H ad h w' b rks) {x:Addr}{xs:List V}{o:HO} (hx:H x=some (.lst xs)) (nf:x∉fixS ad):ShP P w CS CL (upd H x o) ad h w' b rks :=
 p.keep (M:=[x]) (Qn3 (by simp)) (fun m hm=>by rw[List.mem_singleton.mp hm];exact nf) (fun m hm=>by rw[List.mem_singleton.mp hm];exact p.nol hx) (fun m hm ys e=>by rw[List.mem_singleton.mp hm,hx]at e;cases e)
theorem ShP.mono {H H':Hp}{ad:SAd}{h w':Nat}{b:Brd}{rks:List (List RKv)} (p:ShP P w CS CL H ad h w' b rks) (s:Same H H'):ShP P w CS CL H' ad h w' b rks:=p.keep (M:=[]) (Qg2 s) (by simp) (by simp) (by simp)
theorem Xh3 {xs:List Addr} (nd:xs.Nodup) {i j:Nat}{a:Addr} (e1:xs[i]?=some a) (e2:xs[j]?=some a):i=j:=by
 obtain⟨h1,q1⟩:=List.getElem?_eq_some_iff.mp e1
 obtain⟨h2,q2⟩:=List.getElem?_eq_some_iff.mp e2
 exact(List.getElem_inj nd).mp (q1.trans q2.symm)
def RkLe (rks rks':List (List RKv)):Prop:=∀(i:Nat) (rk:List RKv),rks[i]?=some rk→∃mo,rks'[i]?=some (rk++mo)
theorem RkLe.refl (rks:List (List RKv)):RkLe rks rks:=fun i rk e=>⟨[],by rw[List.append_nil];exact e⟩
theorem RkLe.trans {a b c:List (List RKv)} (x:RkLe a b) (y:RkLe b c):RkLe a c:=fun i rk e=>by
 obtain⟨m1,h1⟩:=x i rk e
 obtain⟨m2,h2⟩:=y i _ h1
 exact⟨m1++m2,by rw[←List.append_assoc];exact h2⟩
theorem ShP.asked {H H':Hp}{ad:SAd}{h w':Nat}{b:Brd}{rks:List (List RKv)} (p:ShP P w CS CL H ad h w' b rks) {i:Nat} (hi:i<h+w') {a lc dk dr:Addr}{rk mo:List RKv}{kvs':List (List Key×V)} (q:LnAt P w CL H ad h w' b rks i a lc dk dr rk) (k:Qz2 H H' [dk,dr])
  (li:LiP P w CL H' a dk dr (Qq2 h i).1 (Qq2 h i).2 (Qw8 b (Qq2 h i).1 (Qq2 h i).2) (lenL h w' (Qq2 h i)) (rk++mo) kvs'):ShP P w CS CL H' ad h w' b (rks.set i (rk++mo))∧RkLe rks (rks.set i (rk++mo)):=by
 obtain⟨kvs0,li0⟩:=q.li
 have ht:∀m∈[dk,dr],∀xs,H m≠some (.tup xs):=fun m hm xs e=>by
  rcases List.mem_cons.mp hm with z|z
  ·rw[z,li0.kn.at']at e;cases e
  ·rw[List.mem_singleton.mp z,li0.rp.at']at e;cases e
 have hins:∀(x:Addr) (C dx:Addr) (fs:List (Str×V)),H x=some (.ins C dx fs)→x∉[dk,dr]:=fun x C dx fs e hm=>by
  rcases List.mem_cons.mp hm with z|z
  ·rw[z,li0.kn.at']at e;cases e
  ·rw[List.mem_singleton.mp z,li0.rp.at']at e;cases e
 have hlst:∀(x:Addr) (xs:List V),H x=some (.lst xs)→x∉[dk,dr]:=fun x xs e hm=>by
  rcases List.mem_cons.mp hm with z|z
  ·rw[z,li0.kn.at']at e;cases e
  ·rw[List.mem_singleton.mp z,li0.rp.at']at e;cases e
 obtain⟨dx,hS⟩:=p.ins
 refine⟨⟨⟨dx,k _ _ hS (hins _ _ _ _ hS)⟩,k _ _ p.lst (hlst _ _ p.lst),p.len,by rw[List.length_set];exact p.lrk,p.lk,p.lr,p.lc,fun j hj=>?_,p.ndk,p.ndr,p.nlp,p.ndb⟩,fun j rk' e=>?_⟩
 ·by_cases e:j=i
  ·subst e
   obtain⟨dx',sh,hc⟩:=q.ins
   exact⟨a,lc,dk,dr,rk++mo,q.ea,q.ec,q.ek,q.er,by rw[List.getElem?_set_self (by rw[p.lrk];exact hi)],⟨dx',sh,k _ _ hc (hins _ _ _ _ hc)⟩,kvs',li⟩
  ·obtain⟨a',lc',dk',dr',rk',q'⟩:=p.line j hj
   obtain⟨dx',sh',hc'⟩:=q'.ins
   obtain⟨kv2,li2⟩:=q'.li
   obtain⟨_,_,lc2,h1,_,h3⟩:=li2.ln.ex
   have elc:lc2=lc':=by
    rw[hc']at h1
    have e:=(HO.ins.inj (Option.some.inj h1)).2.2
    have:=congrArg (fun fs=>List.lookup ("choices" : Str) fs) e
    simp only[Qn4]at this
    exact(V.ref.inj (Option.some.inj this)).symm
   subst elc
   have nk:dk'∉[dk,dr]:=fun hm=>by
    rcases List.mem_cons.mp hm with z|z
    ·exact e (Xh3 p.ndk (z▸q'.ek) q.ek)
    ·have:=li2.kn.at'
     rw[List.mem_singleton.mp z,li0.rp.at']at this;cases this
   have nr:dr'∉[dk,dr]:=fun hm=>by
    rcases List.mem_cons.mp hm with z|z
    ·have:=li2.rp.at'
     rw[z,li0.kn.at']at this;cases this
    ·exact e (Xh3 p.ndr (List.mem_singleton.mp z▸q'.er) q.er)
   exact⟨a',lc2,dk',dr',rk',q'.ea,q'.ec,q'.ek,q'.er,by rw[List.getElem?_set_ne (Ne.symm e)];exact q'.ers,⟨dx',sh',k _ _ hc' (hins _ _ _ _ hc')⟩,kv2,li2.keepA hc' k (hins _ _ _ _ hc') (hlst _ _ h3) nk nr ht⟩
 ·by_cases ej:j=i
  ·subst ej
   rw[q.ers]at e
   cases e
   exact⟨mo,by rw[List.getElem?_set_self (by rw[p.lrk];exact hi)]⟩
  ·exact⟨[],by rw[List.append_nil,List.getElem?_set_ne (Ne.symm ej)];exact e⟩
end
section
variable {P:Program}{w:World}{K:PySem.W.Frag}{mg:Str→Option Value}{base:Heap}{CS CL CT:Addr}
theorem Yb8 (n:Nat) (ws:List Nat):inV (V.int ((n:Nat):Int)) (mV ws)=decide (n∈ws):=by
 unfold inV mV
 induction ws with
 | nil=>simp
 | cons x xs ih =>
  rw[List.map_cons,List.any_cons,ih]
  have e:eqV (V.int ((x:Nat):Int)) (V.int ((n:Nat):Int))=decide (n=x):=by
   show (((x:Nat):Int)==((n:Nat):Int))=_
   by_cases q:n=x
   ·subst q;simp
   ·rw[decide_eq_false q]
    exact beq_eq_false_iff_ne.mpr (by omega)
  rw[e]
  by_cases q1:n=x
  ·subst q1;simp
  ·by_cases q2:n∈xs<;>simp[q1,q2]
theorem Yw8 (ws:List Nat):(mV ws).all Qs1=true:=by
 unfold mV
 rw[List.all_eq_true]
 intro x hx
 obtain⟨n,_,rfl⟩:=List.mem_map.mp hx
 rfl
structure BSm (h w':Nat) (b:Brd):Prop where
 ok:BOk h w' b
 hh:h≤4
 hw:w'≤4
 run:∀l,LOk h w' l→(Qw8 b l.1 l.2).length≤2
theorem BSm.lt {h w':Nat}{b:Brd} (o:BSm h w' b) {l:Nat×Nat} (hl:LOk h w' l):∀x∈plN (Qw8 b l.1 l.2) ((lenL h w' l:Nat):Int),x<16:=fun x hx=>Yx9 (o.ok.pos hl) (Qt2 o.hh o.hw) hx
structure NwP (P:Program) (w:World) (CS CL CT:Addr) (H H':Hp) (ad:SAd) (h w':Nat) (b:Brd) (rks0:List (List RKv)) (c lf le lfo lw:Addr) (v u:View) (fs:List Fc):Prop where
 kept:Qz2 H H' (lf::le::lfo::lw::dicS ad)
 sh:∃rks,ShP P w CS CL H' ad h w' b rks∧RkLe rks0 rks
 td:TdP CT H' c lf le h w' u
 vo:VOk h w' u
 tells:Tells h w' b v fs u
 fo:∃us,H' lfo=some (.lst us)∧Qi1 H' fs us∧us.length+unk u≤16
def Zu4 (P:Program) (w:World) (CS CL CT:Addr):Sp:=fun vs H Q _=>∃(ad:SAd) (h w':Nat) (b:Brd) (rks0:List (List RKv)) (c lf le lch lfo:Addr) (v:View) (cs:List Nat),vs=[.ref ad.S,.ref c,.ref lch,.ref lfo]∧BSm h w' b∧ShP P w CS CL H ad h w' b rks0∧TdP CT H c lf le h w' v∧VOk h w' v∧unk v≤16 ∧
 H lch=some (.lst (mV cs))∧cs.length≤100∧(∀i∈cs,i<h+w')∧(∀i,i<h+w'→i∉cs→Calm h w' b v (Qq2 h i))∧H lfo=some (.lst [])∧lf∉fixS ad∧le∉fixS ad∧lfo∉fixS ad∧lfo≠lf∧lfo≠le ∧
 ∀H' u fs val rks,Qz2 H H' (lf::le::lfo::dicS ad)→ShP P w CS CL H' ad h w' b rks→RkLe rks0 rks→TdP CT H' c lf le h w' u→VOk h w' u→Tells h w' b v fs u→(∃us,H' lfo=some (.lst us)∧Qi1 H' fs us) →
  ((val=.non∧∀i,i<h+w'→Calm h w' b u (Qq2 h i))∨(∃l sh,LOk h w' l∧Qj8 b l u=[]∧val=.ref sh∧IsT H' (.shut l.1 l.2) val))→Q val H'
theorem Tells.bits {h w':Nat}{b:Brd}{v u:View}{fs:List Fc} (T:Tells h w' b v fs u):∀f∈fs,f.2.2.1=0∨f.2.2.1=1:=by
 induction T with
 | nil=>intro f hf;cases hf
 | snoc T F ih =>
  intro f hf
  rcases List.mem_append.mp hf with z|z
  ·exact ih f z
  ·rw[List.mem_singleton.mp z]
   exact F.bit
theorem Zv8 {h i p:Nat} (hi:i<h):posL (Qq2 h i) p=(i,p):=by rw[Qb7 hi];rfl
theorem Zh2 {h i p:Nat} (hi:¬i<h):posL (Qq2 h i) p=(p,i-h):=by unfold Qq2 posL;rw[if_neg hi];rfl
def Qg9 (h i p:Nat):Nat:=if i<h then h+p else p
theorem Xj1 {h w' i p j q:Nat} (hi:i<h+w') (hp:p<lenL h w' (Qq2 h i)) (hj:j<h+w') (e:posL (Qq2 h j) q=posL (Qq2 h i) p):j=i∨j=Qg9 h i p:=by
 unfold Qg9
 by_cases h1:i<h
 ·rw[Zv8 h1]at e
  rw[if_pos h1]
  by_cases h2:j<h
  ·rw[Zv8 h2]at e
   exact .inl (Prod.mk.inj e).1
  ·rw[Zh2 h2]at e
   have:=(Prod.mk.inj e).2
   exact .inr (by omega)
 ·rw[Zh2 h1]at e
  rw[if_neg h1]
  by_cases h2:j<h
  ·rw[Zv8 h2]at e
   exact .inr (Prod.mk.inj e).1
  ·rw[Zh2 h2]at e
   have:=(Prod.mk.inj e).2
   exact .inl (by omega)
theorem Yq9 {h w' i p:Nat} (hi:i<h+w') (hp:p<lenL h w' (Qq2 h i)):Qg9 h i p<h+w':=by
 unfold Qg9 Qq2 lenL at *
 by_cases h1:i<h
 ·rw[if_pos h1]at hp ⊢;simp at hp;omega
 ·rw[if_neg h1]at hp ⊢;simp at hp;omega
end
section
variable {P:Program}{w:World}{K:PySem.W.Frag}{mg:Str→Option Value}{base:Heap}{CS CL CT:Addr}
structure InP (P:Program) (w:World) (CS CL CT:Addr) (H H':Hp) (ad:SAd) (h w':Nat) (b:Brd) (rks0:List (List RKv)) (c lf le lfo lw:Addr) (v u:View) (fs:List Fc) (i0:Nat) (fl:List (Nat×Nat)) (j:Nat) (ws ws0:List Nat):Prop where
 nw:NwP P w CS CL CT H H' ad h w' b rks0 c lf le lfo lw v (Qu7 u (Qq2 h i0) (fl.take j)) (fs++(fl.take j).map fun f=>((posL (Qq2 h i0) f.1).1,(posL (Qq2 h i0) f.1).2,((f.2:Nat):Int),Qq2 h i0))
 wt:H' lw=some (.lst (mV ws))
 lt:∀i∈ws,i<h+w'
 cm:∀i,i<h+w'→i∉ws→i≠i0→Calm h w' b (Qu7 u (Qq2 h i0) (fl.take j)) (Qq2 h i)
 ln:ws.length≤ws0.length+j
theorem Qv3:FnScope ["self","told","changed","forced","waiting","number","line","seen","place","value","row","column","other"] ["self","told","changed","forced"] (Qz0 Qp9):=⟨rfl,rfl,rfl,by decide +kernel,rfl,by decide +kernel,by decide +kernel⟩
theorem Zn1 {f:Addr}{fd:FuncData} (F:Fun K "narrow" "Search.narrow" Qp9 f fd) (B:Bt mg) (TS:ST K CS) (TL:LT K CL) (T:TT K CT) (m_seen:Method P w K mg base CX0 CL "seen" 2 ["self","full","empty"] (Zh1 P w CL)) (m_tell:Method P w K mg base CX0 CT "tell" 1 ["self","row","column","value"] (Zv4 CT)):FnOk P w K mg base CX0 3 f fd ["self","told","changed","forced"] (Zu4 P w CS CL CT):=by
 refine F.ok Qv3 (fun vs H Q E h=>?_) (fun cdv A outer s H vs Q E hr h=>?_)
 ·obtain⟨ad,h,w',b,rks0,c,lf,le,lch,lfo,v,cs,rfl,_⟩:=h
  rfl
 ·obtain⟨ad,h,w',b,rks0,c,lf,le,lch,lfo,v,cs,rfl,bs,shp,tp,vo,hun,hch,hcl,hcs,hcalm,hfo,nf1,nf2,nf3,nfo1,nfo2,k⟩:=h
  refine⟨_,(Qq4 (Qz6 (i:=4) Qv3.nd rfl (Or.inl rfl) (Qv0 (Qb6 K) rfl B.list Qm4 (Qq0 (pv 2) Qq3)))
   (Qq4 (Xa1 PassesOwn.never (Qz8 Zi0 (Qx0 (Qx5 K) rfl B.len Qj3 (Qq0 (pv 4) Qq3)) Qq6 (Qx2 _))
   (Qq4 (Qz6 (i:=5) Qv3.nd rfl (Or.inl rfl) (Qs7 PySem.F.plainAttrs_list PySem.F.slot_list_pop PySem.F.type_list_pop Xa8 (pv 4) (Qq0 Qq6 Qq3)))
   (Qq4 (Qz6 (i:=6) Qv3.nd rfl (Or.inl rfl) (Qx1 (Qk0 K) (Qx4 (pv 0) rfl) (pv 5) (fun _ _=>rfl)))
   (Qq4 (Qz6 (i:=7) Qv3.nd rfl (Or.inl rfl) (Qp0 m_seen (pv 6) hr (Qq0 (Qx1 (Qk0 K) (Qx4 (pv 1) rfl) (pv 5) (fun _ _=>rfl)) (Qq0 (Qx1 (Qk0 K) (Qx4 (pv 1) rfl) (pv 5) (fun _ _=>rfl)) Qq3))))
   (Qq4 (Qk1 (Qz8 Zf1 (pv 7) Qg4 (Qx2 _))
   (Qq8 (Qz9 (Qx4 (pv 6) rfl)))
   Qx8)
   (Qq8 (Qf3 PassesOwn.never rfl (Yk9 K (Qx1 (Qx6 K) (pv 7) Qq6 (fun _ _=>rfl))) (Zg2 K 2 rfl (Qh9 (Qx3 (i:=8) Qv3.nd rfl (Or.inl rfl)) (Qh9 (Qx3 (i:=9) Qv3.nd rfl (Or.inl rfl)) Zy5)))
   (Qs4 (Qz6 (i:=10) Qv3.nd rfl (Or.inl rfl) (Zk1 (Qz8 Zw2 (pv 5) (Qx4 (pv 0) rfl) (Qx2 _)) (pv 5) (pv 8)))
   (Qs4 (Qz6 (i:=11) Qv3.nd rfl (Or.inl rfl) (Zk1 (Qz8 Zw2 (pv 5) (Qx4 (pv 0) rfl) (Qx2 _)) (pv 8) (Qz7 Zk2 (pv 5) (Qx4 (pv 0) rfl))))
   (Qq4 (Qh8 (Qp0 m_tell (pv 1) hr (Qq0 (pv 10) (Qq0 (pv 11) (Qq0 (pv 9) Qq3)))))
   (Qq4 (Qh8 (Qs7 PySem.F.plainAttrs_list PySem.F.slot_list_append PySem.F.type_list_append Qd3 (pv 3) (Qq0 (Qy9 (Qq0 (pv 10) (Qq0 (pv 11) (Qq0 (pv 9) (Qq0 (Qx4 (pv 6) rfl) Qq3))))) Qq3)))
   (Qs4 (Qz6 (i:=12) Qv3.nd rfl (Or.inl rfl) (Zk1 (Qz8 Zw2 (pv 5) (Qx4 (pv 0) rfl) (Qx2 _)) (Qz7 Qy1 (Qx4 (pv 0) rfl) (pv 11)) (pv 10)))
   (Qq8 (Qk1 (Qz8 Zk4 (pv 12) (pv 4) rfl)
   (Qq8 (Qh8 (Qs7 PySem.F.plainAttrs_list PySem.F.slot_list_append PySem.F.type_list_append Qd3 (pv 4) (Qq0 (pv 12) Qq3))))
   Qx8))))))))))))))
   (Qq8 (Qz9 Qg4)))),?_⟩
  have hbig:8000≤sizeLine:=by decide
  have ob:=bs.ok
  refine⟨_,rfl,lch,_,rfl,.inl (SqL.of hch),fun lw hlw=>?_⟩
  have s1:Same H (upd H lw (.lst (mV cs))):=Qq5 hlw
  have hlw1:(upd H lw (.lst (mV cs))) lw=some (.lst (mV cs)):=Qq1
  generalize upd H lw (.lst (mV cs))=H1 at s1 hlw1 ⊢
  have nwf:lw∉fixS ad:=fun z=>by
   have tr:∃o,H lw=some o:=by
    unfold fixS at z
    rcases List.mem_cons.mp z with e|z
    ·obtain⟨dx,hS⟩:=shp.ins;exact⟨_,by rw[e];exact hS⟩
    rcases List.mem_cons.mp z with e|z
    ·exact⟨_,by rw[e];exact shp.lst⟩
    rcases List.mem_append.mp z with z|z
    ·obtain⟨i,hi,e⟩:=List.getElem_of_mem z
     obtain⟨a,lc,dk,dr,rk,q⟩:=shp.line i (by rw[←shp.len];exact hi)
     obtain⟨dx,sh,hc⟩:=q.ins
     have:=q.ea
     rw[List.getElem?_eq_getElem hi,e]at this
     cases this
     exact⟨_,hc⟩
    ·obtain⟨i,hi,e⟩:=List.getElem_of_mem z
     obtain⟨a,lc,dk,dr,rk,q⟩:=shp.line i (by rw[←shp.lc];exact hi)
     obtain⟨kvs,li⟩:=q.li
     obtain⟨dx,sh,hc⟩:=q.ins
     obtain⟨_,_,lc2,h1,_,h3⟩:=li.ln.ex
     have elc:lc2=lc:=by
      rw[hc]at h1
      have e:=(HO.ins.inj (Option.some.inj h1)).2.2
      have:=congrArg (fun fs=>List.lookup ("choices" : Str) fs) e
      simp only[Qn4]at this
      exact(V.ref.inj (Option.some.inj this)).symm
     have:=q.ec
     rw[List.getElem?_eq_getElem hi,e,←elc]at this
     cases this
     exact⟨_,h3⟩
   obtain⟨o,e⟩:=tr
   rw[hlw]at e;cases e
  have nw1:lw≠lf:=fun e=>by rw[e,tp.fl]at hlw;cases hlw
  have nw2:lw≠le:=fun e=>by rw[e,tp.el]at hlw;cases hlw
  have nw3:lw≠lfo:=fun e=>by rw[e,hfo]at hlw;cases hlw
  have fin:∀{H':Hp}{u:View}{fs:List Fc}{val:V},NwP P w CS CL CT H H' ad h w' b rks0 c lf le lfo lw v u fs→((val=.non∧∀i,i<h+w'→Calm h w' b u (Qq2 h i))∨(∃l sh,LOk h w' l∧Qj8 b l u=[]∧val=.ref sh∧IsT H' (.shut l.1 l.2) val))→Q val H':=fun {H' u fs val} q hv=>by
   obtain⟨rks,sh,rl⟩:=q.sh
   obtain⟨us,h1,h2,_⟩:=q.fo
   refine k H' u fs val rks (fun x o hx n=>q.kept x o hx fun z=>n ?_) sh rl q.td q.vo q.tells ⟨us,h1,h2⟩ hv
   simp only[List.mem_cons]at z ⊢
   rcases z with z|z|z|z|z
   ·exact .inl z
   ·exact .inr (.inl z)
   ·exact .inr (.inr (.inl z))
   ·rw[z,hlw]at hx;cases hx
   ·exact .inr (.inr (.inr z))
  refine⟨fun m σ H'=>∃(u:View) (fs:List Fc) (ws:List Nat) (o5 o6 o7 o8 o9 o10 o11 o12:Option V),m=2*unk u+ws.length∧σ=[some (.ref ad.S),some (.ref c),some (.ref lch),some (.ref lfo),some (.ref lw),o5,o6,o7,o8,o9,o10,o11,o12]∧NwP P w CS CL CT H H' ad h w' b rks0 c lf le lfo lw v u fs∧H' lw=some (.lst (mV ws))∧(∀i∈ws,i<h+w')∧(∀i,i<h+w'→i∉ws→Calm h w' b u (Qq2 h i))∧ws.length+unk u≤200,⟨_,v,[],cs,none,none,none,none,none,none,none,none,rfl,rfl,⟨Qg2 s1,⟨rks0,shp.mono s1,RkLe.refl _⟩,tp.mono s1,vo,.nil v,⟨[],s1 _ _ hfo,Qi1.nil _,by simpa using hun⟩⟩,hlw1,hcs,hcalm,?_⟩,?_⟩
  ·omega
  rintro m σ H' ⟨u,fs,ws,o5,o6,o7,o8,o9,o10,o11,o12,rfl,rfl,nw,hlw',hwlt,hwc,hwl⟩
  refine⟨_,rfl,lw,_,rfl,.inl (SqL.of hlw'),_,_,rfl,rfl,_,rfl,?_⟩
  cases ws with
  | nil =>
   rw[Qf4,List.length_nil,decide_eq_false (by decide)]
   refine iteF ?_
   exact fin nw (.inl ⟨rfl,fun i hi=>hwc i hi (by simp)⟩)
  | cons i0 ws0 =>
   rw[Qf4,List.length_cons,decide_eq_true (by omega)]
   refine iteT (whN fun N kN=>?_)
   have hi0:i0<h+w':=hwlt i0 (List.mem_cons_self ..)
   have hl:LOk h w' (Qq2 h i0):=Qm1 hi0
   have hseq:seqIndex? 0 (mV (i0::ws0)).length=some 0:=by rw[Qf4,List.length_cons];unfold seqIndex?;simp
   refine⟨_,rfl,.inl ⟨rfl,_,SqL.of hlw'⟩,lw,_,0,0,_,rfl,rfl,hlw',by decide,by decide,hseq,rfl,?_⟩
   have hlw2:(upd H' lw (.lst ((mV (i0::ws0)).eraseIdx 0))) lw=some (.lst (mV ws0)):=Qq1
   have k2:Qz2 H' (upd H' lw (.lst ((mV (i0::ws0)).eraseIdx 0))) [lw]:=Qn3 (by simp)
   obtain⟨rks,sh,rl⟩:=nw.sh
   have sh2:ShP P w CS CL (upd H' lw (.lst ((mV (i0::ws0)).eraseIdx 0))) ad h w' b rks:=sh.put hlw' nwf
   have htk2:TupK H' (upd H' lw (.lst ((mV (i0::ws0)).eraseIdx 0))):=TupK.upd hlw' (fun xs z=>by cases z)
   have ncw:c≠lw:=fun e=>by
    obtain⟨dx,hc⟩:=nw.td.ins
    rw[e,hlw']at hc;cases hc
   have td2:TdP CT (upd H' lw (.lst ((mV (i0::ws0)).eraseIdx 0))) c lf le h w' u:=nw.td.keep k2 (by simpa using ncw) (by simpa using Ne.symm nw1) (by simpa using Ne.symm nw2)
   generalize upd H' lw (.lst ((mV (i0::ws0)).eraseIdx 0))=H2 at hlw2 k2 sh2 htk2 td2 ⊢
   obtain⟨a,lc,dk,dr,rk,q⟩:=sh2.line i0 hi0
   obtain⟨dxS,hS⟩:=sh2.ins
   obtain⟨kvs,li⟩:=q.li
   obtain⟨dxa,sha,lca,ha,hsha,_⟩:=li.ln.ex
   obtain⟨dxc,hc2⟩:=td2.ins
   refine⟨_,rfl,ad.S,CS,dxS,_,_,rfl,hS,TS.cl,TS.nL,Zp2 _ _ _ _ _,_,rfl,ad.ll,_,_,_,rfl,rfl,SqL.of sh2.lst,Qx7 (by rw[List.getElem?_map,q.ea];rfl),?_⟩
   have gF:(mV (Qk3 h w' u 1))[i0]?=some (V.int ((Qz3 (Qq7 u (Qq2 h i0).1 (Qq2 h i0).2) 1:Nat):Int)):=Zq5 (Qp2 hi0)
   have gE:(mV (Qk3 h w' u 0))[i0]?=some (V.int ((Qz3 (Qq7 u (Qq2 h i0).1 (Qq2 h i0).2) 0:Nat):Int)):=Zq5 (Qp2 hi0)
   have lt16:∀x:Int,Qz3 (Qq7 u (Qq2 h i0).1 (Qq2 h i0).2) x<16:=fun x=>Nat.lt_of_lt_of_le (Xm5 nw.vo hl x) (by
    have:=Qt2 (l:=Qq2 h i0) bs.hh bs.hw
    exact Nat.pow_le_pow_right (n:=2) (by decide) this)
   refine⟨_,rfl,a,dxa,_,rfl,ha,Xh1 _ _ _ _ _ (by decide +kernel) (by decide +kernel) (by decide +kernel) (by decide +kernel) (by decide +kernel),_,rfl,c,CT,dxc,_,_,rfl,hc2,T.cl,T.nF,Zj9 _ _ _,_,rfl,lf,_,_,_,rfl,rfl,SqL.of td2.fl,Qx7 gF,_,rfl,c,CT,dxc,_,_,rfl,hc2,T.cl,T.nE,Zv3 _ _ _,_,rfl,le,_,_,_,rfl,rfl,SqL.of td2.el,Qx7 gE,
    a,dk,dr,(Qq2 h i0).1,(Qq2 h i0).2,Qw8 b (Qq2 h i0).1 (Qq2 h i0).2,lenL h w' (Qq2 h i0),Qz3 (Qq7 u (Qq2 h i0).1 (Qq2 h i0).2) 1,Qz3 (Qq7 u (Qq2 h i0).1 (Qq2 h i0).2) 0,rk,kvs,rfl,li,Qt2 bs.hh bs.hw,bs.run _ hl,bs.lt hl,lt16 1,lt16 0,fun H3 val mo kvs' k3 li3 sn3=>?_⟩
   obtain⟨sh3,rl3⟩:=sh2.asked hi0 q k3 li3
   have sub:∀x∈[dk,dr],x∈dicS ad:=fun x hx=>by
    unfold dicS
    rcases List.mem_cons.mp hx with z|z
    ·rw[z];exact List.mem_append_left _ (List.mem_of_getElem? q.ek)
    ·rw[List.mem_singleton.mp z];exact List.mem_append_right _ (List.mem_of_getElem? q.er)
   have nod:∀{x:Addr},x∉dicS ad→x∉[dk,dr]:=fun hx z=>hx (sub _ z)
   have td3:TdP CT H3 c lf le h w' u:=td2.keep k3 (nod (sh2.noi hc2)) (nod (sh2.nol td2.fl)) (nod (sh2.nol td2.el))
   have hlw3:H3 lw=some (.lst (mV ws0)):=k3 _ _ hlw2 (nod (sh2.nol hlw2))
   have tk3:TupK H2 H3:=fun x xs hx=>k3 _ _ hx (nod (sh2.not hx))
   obtain⟨us,hfo',hfc,hful⟩:=nw.fo
   have hfo2:H2 lfo=some (.lst us):=k2 _ _ hfo' (by simpa using Ne.symm nw3)
   have hfo3:H3 lfo=some (.lst us):=k3 _ _ hfo2 (nod (sh2.nol hfo2))
   have kep3:Qz2 H H3 (lf::le::lfo::lw::dicS ad):=Qw4 nw.kept (Qw4 (Qu0 k2 (by simp)) (Qu0 k3 fun x hx=>by
    have:=sub x hx
    simp[this]))
   have nw':NwP P w CS CL CT H H3 ad h w' b rks0 c lf le lfo lw v u fs:=⟨kep3,⟨_,sh3,rl.trans rl3⟩,td3,nw.vo,nw.tells,us,hfo3,hfc.mono (htk2.trans tk3),hful⟩
   obtain⟨dxa3,sha3,lca3,ha3,hsha3,_⟩:=li3.ln.ex
   rcases sn3 with ⟨hL,rfl⟩|⟨hL,p,qf,ni,bb,rfl,hp3,hf3,_⟩
   ·refine⟨_,rfl,rfl,_,rfl,?_⟩
    refine iteT ⟨_,rfl,a,CL,dxa3,_,_,rfl,ha3,TL.cl,TL.nS,Xm6 _ _ _ _ _,?_⟩
    exact fin nw' (.inr ⟨Qq2 h i0,sha3,hl,(Zm9 ob nw.vo bs.hh bs.hw hl).mp hL,rfl,Xg6 hsha3⟩)
   ·refine⟨_,rfl,rfl,_,rfl,?_⟩
    obtain⟨usf,hqf,hufl,huf⟩:=hf3
    have hFor:∀f∈Qm9 (lenL h w' (Qq2 h i0)) (Qj9 h w' b u (Qq2 h i0)) (Qz3 (Qq7 u (Qq2 h i0).1 (Qq2 h i0).2) 1) (Qz3 (Qq7 u (Qq2 h i0).1 (Qq2 h i0).2) 0),Forced h w' b u (Qq2 h i0) f.1 f.2:=fun f hf=>Xl3 ob nw.vo bs.hh bs.hw hl hL (p:=f.1) (z:=f.2) hf
    have hND:=Xl5 (lenL h w' (Qq2 h i0)) (Qj9 h w' b u (Qq2 h i0)) (Qz3 (Qq7 u (Qq2 h i0).1 (Qq2 h i0).2) 1) (Qz3 (Qq7 u (Qq2 h i0).1 (Qq2 h i0).2) 0)
    have hCt:=fun (v':View)=>Xi9 (v:=v') ob nw.vo bs.hh bs.hw hl hL
    replace hufl:usf.length=(Qm9 (lenL h w' (Qq2 h i0)) (Qj9 h w' b u (Qq2 h i0)) (Qz3 (Qq7 u (Qq2 h i0).1 (Qq2 h i0).2) 1) (Qz3 (Qq7 u (Qq2 h i0).1 (Qq2 h i0).2) 0)).length:=hufl
    replace huf:∀(i:Nat) (f:Nat×Nat),(Qm9 (lenL h w' (Qq2 h i0)) (Qj9 h w' b u (Qq2 h i0)) (Qz3 (Qq7 u (Qq2 h i0).1 (Qq2 h i0).2) 1) (Qz3 (Qq7 u (Qq2 h i0).1 (Qq2 h i0).2) 0))[i]?=some f→∃b,usf[i]?=some (.ref b)∧H3 b=some (.tup [.int (f.1:Nat),.int (f.2:Nat)]):=huf
    generalize Qm9 (lenL h w' (Qq2 h i0)) (Qj9 h w' b u (Qq2 h i0)) (Qz3 (Qq7 u (Qq2 h i0).1 (Qq2 h i0).2) 1) (Qz3 (Qq7 u (Qq2 h i0).1 (Qq2 h i0).2) 0)=fl at hFor hND hCt hufl huf
    have ff:=Zc7 ob nw.vo hND hFor
    have hfll:=(ff fl.length (Nat.le_refl _)).2.2.2.2
    have hwl2:ws0.length+1+unk u≤200:=by simpa using hwl
    refine iteF ⟨_,rfl,p,_,_,_,rfl,rfl,SqT.of hp3,Qx7 (j:=0) rfl,qf,rfl,⟨_,SqT.of hqf⟩,Xo2 (K:=K) (a:=qf) (xs:=usf) (fun j σ H4=>∃(ws:List Nat) (o8 o9 o10 o11 o12:Option V),σ=[some (.ref ad.S),some (.ref c),some (.ref lch),some (.ref lfo),some (.ref lw),some (.int (i0:Nat)),some (.ref a),some (.ref p),o8,o9,o10,o11,o12]∧TupK H3 H4∧InP P w CS CL CT H H4 ad h w' b rks0 c lf le lfo lw v u fs i0 fl j ws ws0) ⟨ws0,o8,o9,o10,o11,o12,rfl,TupK.refl _,⟨by rw[List.take_zero,List.map_nil,List.append_nil];exact nw',hlw3,fun i hi=>hwlt i (List.mem_cons_of_mem _ hi),fun i hi hn ne=>hwc i hi (fun z=>(List.mem_cons.mp z).elim ne hn),Nat.le_refl _⟩⟩ ?_ ?_ ?_⟩
    ·rintro j σ H4 _ ⟨ws,_,_,_,_,_,rfl,tk4,_⟩
     exact SqT.of (tk4 _ _ hqf)
    ·intro Pw mk
     rintro j x σ H4 hj ⟨ws,o8,o9,o10,o11,o12,rfl,tk4,ip⟩
     have hjl:j<fl.length:=by rw[←hufl];exact(List.getElem?_eq_some_iff.mp hj).1
     obtain⟨bq,hbq,hbq3⟩:=huf j _ (List.getElem?_eq_getElem hjl)
     rw[hj]at hbq
     cases hbq
     obtain⟨vo4,fr4,_,_,hun4⟩:=ff j (by omega)
     have F0:=fr4 fl[j] (by rw[List.drop_eq_getElem_cons hjl];exact List.mem_cons_self ..)
     have et:fl.take (j+1)=fl.take j++[fl[j]]:=by rw[List.take_add_one,List.getElem?_eq_getElem hjl];rfl
     have hbq4:=tk4 _ _ hbq3
     generalize fl[j]=pz at F0 et hbq4
     obtain⟨pp,z⟩:=pz
     obtain⟨hrh,hcw⟩:=Qd0 F0.hl F0.hp
     replace hrh:(posL (Qq2 h i0) pp).1<h:=hrh
     replace hcw:(posL (Qq2 h i0) pp).2<w':=hcw
     obtain⟨rks4,sh4,rl4⟩:=ip.nw.sh
     obtain⟨dxS4,hS4⟩:=sh4.ins
     refine⟨bq,_,rfl,SqT.of hbq4,rfl,_,_,rfl,_,_,rfl,rfl,?_⟩
     refine⟨fun σ' H'=>H'=H4∧σ'=[some (.ref ad.S),some (.ref c),some (.ref lch),some (.ref lfo),some (.ref lw),some (.int (i0:Nat)),some (.ref a),some (.ref p),some (.int (pp:Nat)),some (.int (z:Nat)),some (.int ((posL (Qq2 h i0) pp).1:Nat)),o11,o12],?_,?_⟩
     ·refine⟨_,rfl,_,rfl,ad.S,CS,dxS4,_,_,rfl,hS4,TS.cl,TS.nR,Qo9 _ _ _ _ _,_,_,rfl,rfl,_,rfl,?_⟩
      by_cases hlt:i0<h
      ·rw[decide_eq_true (by omega)]
       exact iteT ⟨_,rfl,rfl,by rw[Zv8 hlt];rfl⟩
      ·rw[decide_eq_false (by omega)]
       exact iteF ⟨_,rfl,rfl,by rw[Zh2 hlt];rfl⟩
     rintro σ' H' ⟨rfl,rfl⟩
     refine⟨fun σ' H''=>H''=H'∧σ'=[some (.ref ad.S),some (.ref c),some (.ref lch),some (.ref lfo),some (.ref lw),some (.int (i0:Nat)),some (.ref a),some (.ref p),some (.int (pp:Nat)),some (.int (z:Nat)),some (.int ((posL (Qq2 h i0) pp).1:Nat)),some (.int ((posL (Qq2 h i0) pp).2:Nat)),o12],?_,?_⟩
     ·refine⟨_,rfl,_,rfl,ad.S,CS,dxS4,_,_,rfl,hS4,TS.cl,TS.nR,Qo9 _ _ _ _ _,_,_,rfl,rfl,_,rfl,?_⟩
      by_cases hlt:i0<h
      ·rw[decide_eq_true (by omega)]
       exact iteT ⟨_,rfl,rfl,by rw[Zv8 hlt];rfl⟩
      ·rw[decide_eq_false (by omega)]
       refine iteF ⟨_,rfl,_,rfl,ad.S,CS,dxS4,_,_,rfl,hS4,TS.cl,TS.nR,Qo9 _ _ _ _ _,_,_,rfl,rfl,rfl,?_⟩
       have e2:((i0:Nat):Int)-((h:Nat):Int)=(((posL (Qq2 h i0) pp).2:Nat):Int):=by rw[Zh2 hlt];show _=((i0-h:Nat):Int);omega
       rw[←e2]
       rfl
     rintro σ' H'' ⟨rfl,rfl⟩
     obtain⟨dxc4,hc4⟩:=ip.nw.td.ins
     refine⟨_,rfl,c,dxc4,_,rfl,hc4,Zq6 _ _ _ (by decide +kernel) (by decide +kernel) (by decide +kernel),_,rfl,_,rfl,_,rfl,c,lf,le,h,w',_,(posL (Qq2 h i0) pp).1,(posL (Qq2 h i0) pp).2,(z:Nat),rfl,ip.nw.td,vo4,F0.bit,hrh,hcw,F0.op,bs.hh,bs.hw,fun H5 k5 td5=>?_⟩
     have nl4:∀m∈[lf,le],m∉fixS ad:=fun m hm=>by
      rcases List.mem_cons.mp hm with e|e
      ·rw[e];exact nf1
      ·rw[List.mem_singleton.mp e];exact nf2
     have ndl4:∀m∈[lf,le],m∉dicS ad:=fun m hm=>by
      rcases List.mem_cons.mp hm with e|e
      ·rw[e];exact sh4.nol ip.nw.td.fl
      ·rw[List.mem_singleton.mp e];exact sh4.nol ip.nw.td.el
     have ntl4:∀m∈[lf,le],∀xs,H'' m≠some (.tup xs):=fun m hm xs e'=>by
      rcases List.mem_cons.mp hm with e|e
      ·rw[e,ip.nw.td.fl]at e';cases e'
      ·rw[List.mem_singleton.mp e,ip.nw.td.el]at e';cases e'
     have sh5:=sh4.keep k5 nl4 ndl4 ntl4
     have tk5:TupK H'' H5:=fun x xs hx=>k5 _ _ hx fun z=>ntl4 _ z _ hx
     obtain⟨us5,hfo4,hfc4,hfl4⟩:=ip.nw.fo
     have hfo5:H5 lfo=some (.lst us5):=k5 _ _ hfo4 (by simp[nfo1,nfo2])
     have hlw5:H5 lw=some (.lst (mV ws)):=k5 _ _ ip.wt (by simp[nw1,nw2])
     obtain⟨a',lc',dk',dr',rk',q5⟩:=sh5.line i0 hi0
     obtain rfl:a'=a:=by have:=q5.ea;rw[q.ea]at this;exact(Option.some.inj this).symm
     obtain⟨kvs5,li5⟩:=q5.li
     obtain⟨dxa5,sha5,lca5,ha5,hsha5,_⟩:=li5.ln.ex
     refine⟨_,rfl,.inl ⟨rfl,_,SqL.of hfo5⟩,_,rfl,_,rfl,_,rfl,_,rfl,a',CL,dxa5,_,_,rfl,ha5,TL.cl,TL.nS,Xm6 _ _ _ _ _,(by show 4≤sizeLine;decide),fun tq htq=>?_⟩
     have s6:Same H5 (upd H5 tq (.tup [.int ((posL (Qq2 h i0) pp).1:Nat),.int ((posL (Qq2 h i0) pp).2:Nat),.int (z:Nat),.ref sha5])):=Qq5 htq
     have htq6:(upd H5 tq (.tup [.int ((posL (Qq2 h i0) pp).1:Nat),.int ((posL (Qq2 h i0) pp).2:Nat),.int (z:Nat),.ref sha5])) tq=some (.tup [.int ((posL (Qq2 h i0) pp).1:Nat),.int ((posL (Qq2 h i0) pp).2:Nat),.int (z:Nat),.ref sha5]):=Qq1
     generalize upd H5 tq (.tup [.int ((posL (Qq2 h i0) pp).1:Nat),.int ((posL (Qq2 h i0) pp).2:Nat),.int (z:Nat),.ref sha5])=H6 at s6 htq6 ⊢
     have hfo6:=s6 _ _ hfo5
     refine⟨lfo,_,_,rfl,rfl,hfo6,(by omega),?_⟩
     have sh6:=sh5.mono s6
     have td6:=td5.mono s6
     have hfo7:(upd H6 lfo (.lst (us5++[.ref tq]))) lfo=some (.lst (us5++[.ref tq])):=Qq1
     have k7:Qz2 H6 (upd H6 lfo (.lst (us5++[.ref tq]))) [lfo]:=Qn3 (by simp)
     have tk7:TupK H6 (upd H6 lfo (.lst (us5++[.ref tq]))):=TupK.upd hfo6 (fun xs z=>by cases z)
     have sh7:ShP P w CS CL (upd H6 lfo (.lst (us5++[.ref tq]))) ad h w' b rks4:=sh6.put hfo6 nf3
     have hcfo:c≠lfo:=fun e=>by
      obtain⟨dx,hc⟩:=td6.ins
      rw[e,hfo6]at hc;cases hc
     have td7:TdP CT (upd H6 lfo (.lst (us5++[.ref tq]))) c lf le h w' _:=td6.keep k7 (by simpa using hcfo) (by simpa using Ne.symm nfo1) (by simpa using Ne.symm nfo2)
     have hlw7:(upd H6 lfo (.lst (us5++[.ref tq]))) lw=some (.lst (mV ws)):=k7 _ _ (s6 _ _ hlw5) (by simpa using nw3)
     generalize upd H6 lfo (.lst (us5++[.ref tq]))=H7 at hfo7 k7 tk7 sh7 td7 hlw7 ⊢
     have tk57:TupK H5 H7:=(TupK.of s6).trans tk7
     have tk37:TupK H3 H7:=tk4.trans (tk5.trans tk57)
     have kep7:Qz2 H H7 (lf::le::lfo::lw::dicS ad):=Qw4 ip.nw.kept (Qw4 (Qu0 k5 (by simp)) (Qw4 (Qg2 s6) (Qu0 k7 (by simp))))
     have hfc7:FcAt H7 ((posL (Qq2 h i0) pp).1,(posL (Qq2 h i0) pp).2,((z:Nat):Int),Qq2 h i0) (.ref tq):=⟨tq,.ref sha5,rfl,tk7 _ _ htq6,Xg6 (tk57 _ _ hsha5)⟩
     have hun5:unk (setC (Qu7 u (Qq2 h i0) (fl.take j)) (posL (Qq2 h i0) pp).1 (posL (Qq2 h i0) pp).2 (some ((z:Nat):Int)))<unk (Qu7 u (Qq2 h i0) (fl.take j)):=Zg4 vo4 (vo4.setC hrh F0.sm) (Qr8 vo4 hrh hcw F0.op) hrh hcw F0.op (by rw[Qk8 vo4 hrh hcw,if_pos ⟨rfl,rfl⟩];exact fun z=>nomatch z)
     have eV:Qu7 u (Qq2 h i0) (fl.take (j+1))=setC (Qu7 u (Qq2 h i0) (fl.take j)) (posL (Qq2 h i0) pp).1 (posL (Qq2 h i0) pp).2 (some ((z:Nat):Int)):=by rw[et,Za9]
     have eFs:fs++(fl.take (j+1)).map (fun f=>((posL (Qq2 h i0) f.1).1,(posL (Qq2 h i0) f.1).2,((f.2:Nat):Int),Qq2 h i0))=(fs++(fl.take j).map fun f=>((posL (Qq2 h i0) f.1).1,(posL (Qq2 h i0) f.1).2,((f.2:Nat):Int),Qq2 h i0))++[((posL (Qq2 h i0) pp).1,(posL (Qq2 h i0) pp).2,((z:Nat):Int),Qq2 h i0)]:=by rw[et,List.map_append,←List.append_assoc];rfl
     have nw7:NwP P w CS CL CT H H7 ad h w' b rks0 c lf le lfo lw v (Qu7 u (Qq2 h i0) (fl.take (j+1))) (fs++(fl.take (j+1)).map fun f=>((posL (Qq2 h i0) f.1).1,(posL (Qq2 h i0) f.1).2,((f.2:Nat):Int),Qq2 h i0)):=by
      rw[eV,eFs]
      refine⟨kep7,⟨rks4,sh7,rl4⟩,td7,vo4.setC hrh F0.sm,.snoc ip.nw.tells F0,us5++[.ref tq],hfo7,(hfc4.mono (tk5.trans tk57)).snoc hfc7,?_⟩
      rw[List.length_append,List.length_singleton]
      omega
     have cm7:∀i,i<h+w'→i∉ws→i≠i0→i≠Qg9 h i0 pp→Calm h w' b (Qu7 u (Qq2 h i0) (fl.take (j+1))) (Qq2 h i):=fun i hi hn ne nc=>by
      rw[eV]
      refine Calm.other ob vo4 (Qm1 hi) F0.bit hrh hcw F0.op (fun q hq e=>?_) (ip.cm i hi hn ne)
      rcases Xj1 hi0 F0.hp hi (e.trans rfl) with e1|e1
      ·exact ne e1
      ·exact nc e1
     obtain⟨dxS7,hS7⟩:=sh7.ins
     refine⟨fun σ' H8=>H8=H7∧σ'=[some (.ref ad.S),some (.ref c),some (.ref lch),some (.ref lfo),some (.ref lw),some (.int (i0:Nat)),some (.ref a'),some (.ref p),some (.int (pp:Nat)),some (.int (z:Nat)),some (.int ((posL (Qq2 h i0) pp).1:Nat)),some (.int ((posL (Qq2 h i0) pp).2:Nat)),some (.int (Qg9 h i0 pp:Nat))],?_,?_⟩
     ·refine⟨_,rfl,_,rfl,ad.S,CS,dxS7,_,_,rfl,hS7,TS.cl,TS.nR,Qo9 _ _ _ _ _,_,_,rfl,rfl,_,rfl,?_⟩
      by_cases hlt:i0<h
      ·rw[decide_eq_true (by omega)]
       refine iteT ⟨_,rfl,ad.S,CS,dxS7,_,_,rfl,hS7,TS.cl,TS.nR,Qo9 _ _ _ _ _,_,rfl,_,_,rfl,rfl,rfl,?_⟩
       have e2:((h:Nat):Int)+(((posL (Qq2 h i0) pp).2:Nat):Int)=((Qg9 h i0 pp:Nat):Int):=by unfold Qg9;rw[if_pos hlt,Zv8 hlt];show (h:Int)+(pp:Int)=((h+pp:Nat):Int);omega
       rw[←e2]
       rfl
      ·rw[decide_eq_false (by omega)]
       refine iteF ⟨_,rfl,rfl,?_⟩
       have e2:(((posL (Qq2 h i0) pp).1:Nat):Int)=((Qg9 h i0 pp:Nat):Int):=by unfold Qg9;rw[if_neg hlt,Zh2 hlt]
       rw[←e2]
       rfl
     rintro σ' H8 ⟨rfl,rfl⟩
     have hcl:Qg9 h i0 pp<h+w':=Yq9 hi0 F0.hp
     have hwsl:=ip.ln
     refine⟨_,rfl,_,rfl,lw,_,rfl,.inl (SqL.of hlw7),rfl,Yw8 _,_,rfl,?_⟩
     show (if (!inV (V.int ((Qg9 h i0 pp:Nat):Int)) (mV ws))=true then _ else _)
     rw[Yb8]
     by_cases hin:Qg9 h i0 pp∈ws
     ·rw[decide_eq_true hin]
      refine iteF (mk _ _ _ ⟨ws,_,_,_,_,_,rfl,tk37,nw7,hlw7,ip.lt,fun i hi hn ne=>cm7 i hi hn ne (fun e=>hn (e▸hin)),by omega⟩)
     ·rw[decide_eq_false hin]
      refine iteT ⟨_,rfl,.inl ⟨rfl,_,SqL.of hlw7⟩,_,rfl,lw,_,_,rfl,rfl,hlw7,(by rw[Qf4];omega),?_⟩
      have e8:mV ws++[V.int ((Qg9 h i0 pp:Nat):Int)]=mV (ws++[Qg9 h i0 pp]):=by unfold mV;rw[List.map_append];rfl
      have k8:Qz2 H8 (upd H8 lw (.lst (mV ws++[V.int ((Qg9 h i0 pp:Nat):Int)]))) [lw]:=Qn3 (by simp)
      have tk8:TupK H8 (upd H8 lw (.lst (mV ws++[V.int ((Qg9 h i0 pp:Nat):Int)]))):=TupK.upd hlw7 (fun xs z=>by cases z)
      obtain⟨us7,hfo7',hfc7',hfl7⟩:=nw7.fo
      have ncw7:c≠lw:=ncw
      refine mk _ _ _ ⟨ws++[Qg9 h i0 pp],_,_,_,_,_,rfl,tk37.trans tk8,⟨Qw4 kep7 (Qu0 k8 (by simp)),⟨rks4,sh7.put hlw7 nwf,rl4⟩,nw7.td.keep k8 (by simpa using ncw7) (by simpa using Ne.symm nw1) (by simpa using Ne.symm nw2),nw7.vo,nw7.tells,us7,k8 _ _ hfo7' (by simpa using Ne.symm nw3),hfc7'.mono tk8,hfl7⟩,by rw[Qq1,e8],fun i hi=>?_,fun i hi hn ne=>?_,?_⟩
      ·rcases List.mem_append.mp hi with e|e
       ·exact ip.lt i e
       ·rw[List.mem_singleton.mp e];exact hcl
      ·exact cm7 i hi (fun e=>hn (List.mem_append_left _ e)) ne (fun e=>hn (List.mem_append_right _ (by rw[e];simp)))
      ·rw[List.length_append,List.length_singleton];omega
    ·rintro σ H4 ⟨ws,o8',o9',o10',o11',o12',rfl,tk4,ip⟩
     rw[hufl]at ip
     obtain⟨vo4,_,hlay4,hop4,hun4⟩:=ff fl.length (Nat.le_refl _)
     have hln:=ip.ln
     have hwl':ws0.length+1+unk u≤200:=by simpa using hwl
     refine kN (2*unk (Qu7 u (Qq2 h i0) (fl.take fl.length))+ws.length) _ _ (by omega) ⟨_,_,ws,_,_,_,_,_,_,_,_,rfl,rfl,ip.nw,ip.wt,ip.lt,fun i hi hn=>?_,by omega⟩
     by_cases e:i=i0
     ·subst e
      exact hCt _ vo4 hlay4 (by rw[List.take_length]at hop4 ⊢;exact hop4)
     ·exact ip.cm i hi hn e
end
section
variable {P:Program}{w:World}{K:PySem.W.Frag}{mg:Str→Option Value}{base:Heap}{CS CL CT:Addr}
def Qi3 (h w':Nat) (b:Brd) (u:View) (rks:List (List RKv)) (i:Nat) (ids:List Int):Prop:=ids.length=i∧∀j,j<i→∃(rk:List RKv) (n:Nat) (bb:Addr),rks[j]?=some rk∧ids[j]?=some (n:Int)∧rk[n]?=some (Qh6 (Qj9 h w' b u (Qq2 h j)),bb,(n:Int))
theorem Qi3.mono {h w':Nat}{b:Brd}{u:View}{rks rks':List (List RKv)}{i:Nat}{ids:List Int} (p:Qi3 h w' b u rks i ids) (le:RkLe rks rks'):Qi3 h w' b u rks' i ids:=⟨p.1,fun j hj=>by
 obtain⟨rk,n,bb,h1,h2,h3⟩:=p.2 j hj
 obtain⟨mo,h4⟩:=le j rk h1
 exact⟨rk++mo,n,bb,h4,h2,by rw[List.getElem?_append_left (List.getElem?_eq_some_iff.mp h3).1];exact h3⟩⟩
theorem Qi3.snoc {h w':Nat}{b:Brd}{u:View}{rks:List (List RKv)}{i:Nat}{ids:List Int} (p:Qi3 h w' b u rks i ids) {rk:List RKv}{n:Nat}{bb:Addr} (h1:rks[i]?=some rk) (h3:rk[n]?=some (Qh6 (Qj9 h w' b u (Qq2 h i)),bb,(n:Int))):Qi3 h w' b u rks (i+1) (ids++[(n:Int)]):=by
 refine⟨by rw[List.length_append,p.1];rfl,fun j hj=>?_⟩
 by_cases e:j=i
 ·subst e
  exact⟨rk,n,bb,h1,by rw[List.getElem?_append_right (by rw[p.1];exact Nat.le_refl _),p.1,Nat.sub_self];rfl,h3⟩
 ·obtain⟨rk',n',bb',q1,q2,q3⟩:=p.2 j (by omega)
  exact⟨rk',n',bb',q1,by rw[List.getElem?_append_left (by rw[p.1];omega)];exact q2,q3⟩
def Zu5 (P:Program) (w:World) (CS CL CT:Addr):Sp:=fun vs H Q _=>∃(ad:SAd) (h w':Nat) (b:Brd) (rks:List (List RKv)) (c lf le:Addr) (u:View),vs=[.ref ad.S,.ref c]∧BSm h w' b∧ShP P w CS CL H ad h w' b rks∧TdP CT H c lf le h w' u∧VOk h w' u∧(∀l,LOk h w' l→Calm h w' b u l) ∧
 ∀H' t ids rks',Qz2 H H' (dicS ad)→ShP P w CS CL H' ad h w' b rks'→RkLe rks rks'→TdP CT H' c lf le h w' u→H' t=some (.tup (ids.map V.int))→H t=none→Qi3 h w' b u rks' (h+w') ids→Q (.ref t) H'
theorem Zu6:FnScope ["self","told"] ["self","told"] (Qz0 Qh2):=⟨rfl,rfl,rfl,by decide +kernel,rfl,by decide +kernel,by decide +kernel⟩
theorem Zu7 {f:Addr}{fd:FuncData} (F:Fun K "rests_of" "Search.rests_of" Qh2 f fd) (B:Bt mg) (Z:Bz mg) (TS:ST K CS) (TL:LT K CL) (T:TT K CT) (m_seen:Method P w K mg base CX0 CL "seen" 2 ["self","full","empty"] (Zh1 P w CL)):FnOk P w K mg base CX0 3 f fd ["self","told"] (Zu5 P w CS CL CT):=by
 refine F.ok Zu6 (fun vs H Q E h=>?_) (fun cdv A outer s H vs Q E hr h=>?_)
 ·obtain⟨ad,h,w',b,rks,c,lf,le,u,rfl,_⟩:=h
  rfl
 ·obtain⟨ad,h,w',b,rks,c,lf,le,u,rfl,bs,shp,tp,vo,hcalm,k⟩:=h
  refine⟨_,(Qq8 (Qz9 (Qv0 (Qn7 K) rfl B.tuple Ql1 (Qq0 (Qp5 ["line","full","empty"] [] ⟨rfl,rfl,rfl,rfl,rfl⟩ rfl (Xo9 K rfl Z.zip (Qq0 (Qx4 (pv 0) rfl) (Qq0 (Qx4 (pv 1) rfl) (Qq0 (Qx4 (pv 1) rfl) Qq3)))) (fun _ _ _ _ _=>(Zg2 K 3 rfl (Qh9 (Qx3 (i:=0) (show (["line","full","empty"]:List Str).Nodup by decide +kernel) rfl (Or.inl rfl)) (Qh9 (Qx3 (i:=1) (show (["line","full","empty"]:List Str).Nodup by decide +kernel) rfl (Or.inl rfl)) (Qh9 (Qx3 (i:=2) (show (["line","full","empty"]:List Str).Nodup by decide +kernel) rfl (Or.inl rfl)) Zy5))))) (fun _ _ _ _ _=>Qw5 (Qx1 (Qx6 K) (Qp0 m_seen (pv 0) hr (Qq0 (pv 1) (Qq0 (pv 2) Qq3))) Qq6 (fun _ _=>rfl)))) Qq3)))),?_⟩
  have hbig:8000≤sizeLine:=by decide
  have ob:=bs.ok
  have hh:=bs.hh
  have hw:=bs.hw
  obtain⟨dxS,hS⟩:=shp.ins
  obtain⟨dxc,hc⟩:=tp.ins
  have eL:(ad.las.map V.ref).length=h+w':=by rw[List.length_map,shp.len]
  have eF:(mV (Qk3 h w' u 1)).length=h+w':=by rw[Qf4,Qm2]
  have eE:(mV (Qk3 h w' u 0)).length=h+w':=by rw[Qf4,Qm2]
  refine⟨_,rfl,ad.S,CS,dxS,_,_,rfl,hS,TS.cl,TS.nL,Zp2 _ _ _ _ _,_,rfl,c,CT,dxc,_,_,rfl,hc,T.cl,T.nF,Zj9 _ _ _,_,rfl,c,CT,dxc,_,_,rfl,hc,T.cl,T.nE,Zv3 _ _ _,ad.ll,lf,le,rfl,⟨_,SqL.of shp.lst⟩,⟨_,SqL.of tp.fl⟩,⟨_,SqL.of tp.el⟩,
   Xs9 (K:=K) (a:=ad.ll) (b:=lf) (c:=le) (xs:=ad.las.map V.ref) (ys:=mV (Qk3 h w' u 1)) (zs:=mV (Qk3 h w' u 0)) (fun i vs H'=>∃(rks':List (List RKv)) (ids:List Int),vs=ids.map V.int∧Qz2 H H' (dicS ad)∧ShP P w CS CL H' ad h w' b rks'∧RkLe rks rks'∧TdP CT H' c lf le h w' u∧Qi3 h w' b u rks' i ids) ⟨rks,[],rfl,Qg2 (Same.refl H),shp,RkLe.refl _,tp,rfl,fun j hj=>absurd hj (Nat.not_lt_zero _)⟩ (by rw[eL,eF]) (by rw[eL,eE]) ?_ ?_ ?_ ?_ ?_⟩
  ·rw[eL];omega
  ·rintro i vs H' ⟨rks',ids,rfl,_,_,_,_,hi⟩
   rw[List.length_map,hi.1]
   exact Nat.le_refl _
  ·rintro i vs H' _ ⟨rks',ids,rfl,_,sh,_,td,_⟩
   exact⟨SqL.of sh.lst,SqL.of td.fl,SqL.of td.el⟩
  ·rintro i x y z vs H' p hx hy hz ⟨rks',ids,rfl,kp,sh,rl,td,hid⟩ hp
   have hi:i<h+w':=by have:=(List.getElem?_eq_some_iff.mp hx).1;omega
   have hl:LOk h w' (Qq2 h i):=Qm1 hi
   rw[Zq5 (Qp2 hi)]at hy hz
   cases hy
   cases hz
   obtain⟨a,lc,dk,dr,rk,q0⟩:=sh.line i hi
   rw[List.getElem?_map,q0.ea]at hx
   cases hx
   have s1:Same H' (upd H' p (.tup [.ref a,.int ((Qz3 (Qq7 u (Qq2 h i).1 (Qq2 h i).2) 1:Nat):Int),.int ((Qz3 (Qq7 u (Qq2 h i).1 (Qq2 h i).2) 0:Nat):Int)])):=Qq5 hp
   have hp1:(upd H' p (.tup [.ref a,.int ((Qz3 (Qq7 u (Qq2 h i).1 (Qq2 h i).2) 1:Nat):Int),.int ((Qz3 (Qq7 u (Qq2 h i).1 (Qq2 h i).2) 0:Nat):Int)])) p=some (.tup [.ref a,.int ((Qz3 (Qq7 u (Qq2 h i).1 (Qq2 h i).2) 1:Nat):Int),.int ((Qz3 (Qq7 u (Qq2 h i).1 (Qq2 h i).2) 0:Nat):Int)]):=Qq1
   show gTup K 3 _ (V.ref p) _ (upd H' p (.tup [.ref a,.int ((Qz3 (Qq7 u (Qq2 h i).1 (Qq2 h i).2) 1:Nat):Int),.int ((Qz3 (Qq7 u (Qq2 h i).1 (Qq2 h i).2) 0:Nat):Int)])) _
   generalize upd H' p (.tup [.ref a,.int ((Qz3 (Qq7 u (Qq2 h i).1 (Qq2 h i).2) 1:Nat):Int),.int ((Qz3 (Qq7 u (Qq2 h i).1 (Qq2 h i).2) 0:Nat):Int)])=H1 at s1 hp1 ⊢
   have sh1:=sh.mono s1
   have td1:=td.mono s1
   obtain⟨a',lc',dk',dr',rk',q⟩:=sh1.line i hi
   obtain rfl:a'=a:=by have:=q.ea;rw[q0.ea]at this;exact(Option.some.inj this).symm
   obtain⟨kvs,li⟩:=q.li
   obtain⟨dxa,sha,lca,ha,hsha,_⟩:=li.ln.ex
   obtain⟨dxc1,hc1⟩:=td1.ins
   have lt16:∀x:Int,Qz3 (Qq7 u (Qq2 h i).1 (Qq2 h i).2) x<16:=fun x=>Nat.lt_of_lt_of_le (Xm5 vo hl x) (by
    have:=Qt2 (l:=Qq2 h i) bs.hh bs.hw
    exact Nat.pow_le_pow_right (n:=2) (by decide) this)
   refine⟨p,_,rfl,SqT.of hp1,rfl,_,_,rfl,_,_,rfl,_,_,rfl,rfl,rfl,?_⟩
   refine⟨_,rfl,a',dxa,_,rfl,ha,Xh1 _ _ _ _ _ (by decide +kernel) (by decide +kernel) (by decide +kernel) (by decide +kernel) (by decide +kernel),_,rfl,_,rfl,
    a',dk',dr',(Qq2 h i).1,(Qq2 h i).2,Qw8 b (Qq2 h i).1 (Qq2 h i).2,lenL h w' (Qq2 h i),Qz3 (Qq7 u (Qq2 h i).1 (Qq2 h i).2) 1,Qz3 (Qq7 u (Qq2 h i).1 (Qq2 h i).2) 0,rk',kvs,rfl,li,Qt2 bs.hh bs.hw,bs.run _ hl,bs.lt hl,lt16 1,lt16 0,fun H3 val mo kvs' k3 li3 sn3=>?_⟩
   obtain⟨sh3,rl3⟩:=sh1.asked hi q k3 li3
   have sub:∀x∈[dk',dr'],x∈dicS ad:=fun x hx=>by
    unfold dicS
    rcases List.mem_cons.mp hx with z|z
    ·rw[z];exact List.mem_append_left _ (List.mem_of_getElem? q.ek)
    ·rw[List.mem_singleton.mp z];exact List.mem_append_right _ (List.mem_of_getElem? q.er)
   have nod:∀{x:Addr},x∉dicS ad→x∉[dk',dr']:=fun hx z=>hx (sub _ z)
   have td3:TdP CT H3 c lf le h w' u:=td1.keep k3 (nod (sh1.noi hc1)) (nod (sh1.nol td1.fl)) (nod (sh1.nol td1.el))
   rcases sn3 with ⟨hL,_⟩|⟨hL,p3,q3,n3,b3,rfl,hp3,_,hr3⟩
   ·exact absurd ((Zm9 ob vo hh hw hl).mp hL) (hcalm _ hl).ex
   ·refine⟨p3,_,_,_,rfl,rfl,SqT.of hp3,Qx7 (j:=1) rfl,?_⟩
    refine⟨_,ids++[(n3:Int)],by rw[List.map_append];rfl,Qw4 kp (Qw4 (Qg2 s1) (Qu0 k3 sub)),sh3,rl.trans rl3,td3,(hid.mono rl3).snoc (rk:=rk'++mo) (bb:=b3) (by rw[List.getElem?_set_self (by rw[sh.lrk];exact hi)]) hr3⟩
  ·rintro vs H' ⟨rks',ids,rfl,kp,sh,rl,td,hid⟩ l hl
   rw[eL]at hid
   have s1:Same H' (upd H' l (.lst (ids.map V.int))):=Qq5 hl
   refine⟨l,_,rfl,.inl ⟨SqL.of Qq1,fun t ht=>?_⟩⟩
   have s2:=s1.trans (Qq5 (o:=.tup (ids.map V.int)) ht)
   refine k _ t ids rks' (Qw4 kp (Qg2 s2)) (sh.mono s2) rl (td.mono s2) Qq1 ?_ hid
   have ht':=s1.free ht
   cases q:H t with
   | none=>rfl
   | some o =>
    exfalso
    by_cases hd:t∈dicS ad
    ·rcases sh.dic hd with ⟨_,e⟩|⟨_,e⟩<;>rw[ht']at e<;>cases e
    ·have:=kp t o q hd
     rw[ht']at this;cases this
end
section
variable {P:Program}{w:World}{K:PySem.W.Frag}{mg:Str→Option Value}{base:Heap}{CS CL CT:Addr}
structure Pc where
 l:Addr
 as:List Addr
 v:View
def pcAd (p:Pc):List Addr:=p.l::p.as
structure PcP (H:Hp) (lp:Addr) (ps:List Pc):Prop where
 at':H lp=some (.lst (ps.map fun p=>V.ref p.l))
 con:∀p∈ps,H p.l=some (.lst (p.as.map V.ref))∧p.as.length=(picZ p.v).length∧∀(i:Nat) a xs,p.as[i]?=some a→(picZ p.v)[i]?=some xs→H a=some (.lst (xs.map V.int))
 nd:(ps.flatMap pcAd).Nodup
 np:lp∉ps.flatMap pcAd
theorem PcP.keep {H H':Hp}{lp:Addr}{ps:List Pc}{M:List Addr} (p:PcP H lp ps) (k:Qz2 H H' M) (n1:lp∉M) (n2:∀a∈ps.flatMap pcAd,a∉M):PcP H' lp ps:=by
 refine⟨k _ _ p.at' n1,fun q hq=>?_,p.nd,p.np⟩
 obtain⟨h1,h2,h3⟩:=p.con q hq
 have mem:∀a∈pcAd q,a∉M:=fun a ha=>n2 a (List.mem_flatMap.mpr ⟨q,hq,ha⟩)
 exact⟨k _ _ h1 (mem _ (by unfold pcAd;simp)),h2,fun i a xs e1 e2=>k _ _ (h3 i a xs e1 e2) (mem _ (by unfold pcAd;simp[List.mem_of_getElem? e1]))⟩
theorem PcP.mono {H H':Hp}{lp:Addr}{ps:List Pc} (p:PcP H lp ps) (s:Same H H'):PcP H' lp ps:=p.keep (M:=[]) (Qg2 s) (by simp) (by simp)
theorem PcP.live {H:Hp}{lp:Addr}{ps:List Pc} (p:PcP H lp ps):∀a∈ps.flatMap pcAd,∃xs,H a=some (.lst xs):=fun a ha=>by
 obtain⟨q,hq,ha⟩:=List.mem_flatMap.mp ha
 obtain⟨h1,h2,h3⟩:=p.con q hq
 unfold pcAd at ha
 rcases List.mem_cons.mp ha with e|e
 ·exact⟨_,by rw[e];exact h1⟩
 ·obtain⟨i,hi,ei⟩:=List.getElem_of_mem e
  have hi2:i<(picZ q.v).length:=by rw[←h2];exact hi
  exact⟨_,h3 i a _ (by rw[List.getElem?_eq_getElem hi,ei]) (List.getElem?_eq_getElem hi2)⟩
structure BrP (H:Hp) (h w':Nat) (b:Brd) (rks:List (List RKv)) (db:Addr) (kvs:List (List Key×V)):Prop where
 at':H db=some (.dT kvs)
 val:∀(ids:List Int) (v:V),valV kvs (ids.map Sum.inl)=some v→∃t u0,IsT H t v∧VOk h w' u0∧(∀l,LOk h w' l→Calm h w' b u0 l)∧Qi3 h w' b u0 rks (h+w') ids∧Leaf h w' b t u0 []
theorem BrP.keep {H H':Hp}{h w':Nat}{b:Brd}{rks rks':List (List RKv)}{db:Addr}{kvs:List (List Key×V)} (p:BrP H h w' b rks db kvs) (e:H' db=some (.dT kvs)) (tk:TupK H H') (le:RkLe rks rks'):BrP H' h w' b rks' db kvs:=⟨e,fun ids v hv=>by
 obtain⟨t,u0,h1,h2,h3,h4,h5⟩:=p.val ids v hv
 exact⟨t,u0,h1.mono tk,h2,h3,h4.mono le,h5⟩⟩
structure WhP (P:Program) (w:World) (CS CL CT:Addr) (H:Hp) (ad:SAd) (h w':Nat) (b:Brd) (rks:List (List RKv)) (c lf le:Addr) (u:View) (ps:List Pc) (kvs:List (List Key×V)):Prop where
 bs:BSm h w' b
 sh:ShP P w CS CL H ad h w' b rks
 td:TdP CT H c lf le h w' u
 vo:VOk h w' u
 pc:PcP H ad.lp ps
 br:BrP H h w' b rks ad.db kvs
 two:ps.length≤1
 n1:lf∉fixS ad∧le∉fixS ad∧ad.lp∉fixS ad
 n2:ad.lp≠lf∧ad.lp≠le
 n3:∀a∈ps.flatMap pcAd,a≠lf∧a≠le∧a∉fixS ad
abbrev mutS (ad:SAd) (lf le:Addr):List Addr:=lf::le::ad.lp::ad.db::dicS ad
structure EndP (P:Program) (w:World) (CS CL:Addr) (H H':Hp) (ad:SAd) (h w':Nat) (b:Brd) (rks:List (List RKv)) (lf le:Addr) (v:View) (t:Tree) (ps:List Pc) (kvs:List (List Key×V)) (m:Nat) (val:V) (ps':List Pc):Prop where
 kept:Qz2 H H' (mutS ad lf le)
 sh:∃rks',ShP P w CS CL H' ad h w' b rks'∧RkLe rks rks'∧∃kvs',BrP H' h w' b rks' ad.db kvs'∧kvs'.length≤kvs.length+m
 pc:PcP H' ad.lp ps'
 on:∃mo,ps'=ps++mo∧∀a∈mo.flatMap pcAd,H a=none
 tr:IsT H' t val
 fd:Found h w' b v t (ps.map (·.v)) (ps'.map (·.v))
def Xq4 (P:Program) (w:World) (CS CL CT:Addr) (n:Nat):Sp:=fun vs H Q _=>∃(ad:SAd) (h w':Nat) (b:Brd) (rks:List (List RKv)) (c lf le:Addr) (u:View) (ps:List Pc) (kvs:List (List Key×V)),vs=[.ref ad.S,.ref c]∧WhP P w CS CL CT H ad h w' b rks c lf le u ps kvs∧unk u≤n∧n≤16∧kvs.length+2^(n+1)≤2^20 ∧
 (∀l,LOk h w' l→Calm h w' b u l)∧∀H' val t ps',EndP P w CS CL H H' ad h w' b rks lf le u t ps kvs (2^(n+1)-1) val ps'→Q val H'
def Qe0 (P:Program) (w:World) (CS CL CT:Addr) (n:Nat):Sp:=fun vs H Q _=>∃(ad:SAd) (h w':Nat) (b:Brd) (rks:List (List RKv)) (c lf le lch:Addr) (v:View) (cs:List Nat) (ps:List Pc) (kvs:List (List Key×V)),vs=[.ref ad.S,.ref c,.ref lch]∧WhP P w CS CL CT H ad h w' b rks c lf le v ps kvs∧unk v≤n∧n≤16∧kvs.length+2^(n+1)≤2^20 ∧
 H lch=some (.lst (mV cs))∧cs.length≤100∧(∀i∈cs,i<h+w')∧(∀i,i<h+w'→i∉cs→Calm h w' b v (Qq2 h i))∧∀H' val t ps',EndP P w CS CL H H' ad h w' b rks lf le v t ps kvs (2^(n+1)-1) val ps'→Q val H'
theorem Xm7 {h w':Nat}{l:Nat×Nat} (hl:LOk h w' l):∃i,i<h+w'∧Qq2 h i=l:=by
 obtain⟨a,b⟩:=l
 rcases hl with ⟨h1,h2⟩|⟨h1,h2⟩
 ·replace h1:a=0:=h1
  replace h2:b<h:=h2
  subst h1
  exact⟨b,by omega,Qb7 h2⟩
 ·replace h1:a=1:=h1
  replace h2:b<w':=h2
  subst h1
  exact⟨h+b,by omega,Qa6 h b⟩
end
section
variable {P:Program}{w:World}{K:PySem.W.Frag}{mg:Str→Option Value}{base:Heap}{CS CL CT:Addr}
theorem Qn5:FnScope ["self","told","changed","forced","shut","inner"] ["self","told","changed"] (Qz0 Qf2):=⟨rfl,rfl,rfl,by decide +kernel,rfl,by decide +kernel,by decide +kernel⟩
theorem WhP.dbn {H:Hp}{ad:SAd}{h w':Nat}{b:Brd}{rks:List (List RKv)}{c lf le:Addr}{u:View}{ps:List Pc}{kvs:List (List Key×V)} (q:WhP P w CS CL CT H ad h w' b rks c lf le u ps kvs):ad.db∉dicS ad:=fun z=>by
 unfold dicS at z
 rcases List.mem_append.mp z with z|z
 ·exact q.sh.ndb z
 ·obtain⟨i,hi,e⟩:=List.getElem_of_mem z
  obtain⟨a,lc,dk,dr,rk,p⟩:=q.sh.line i (by rw[←q.sh.lr];exact hi)
  obtain⟨kv,li⟩:=p.li
  have:=p.er
  rw[List.getElem?_eq_getElem hi,e]at this
  cases this
  have:=li.rp.at'
  rw[q.br.at']at this
  cases this
theorem WhP.ntup {H:Hp}{ad:SAd}{h w':Nat}{b:Brd}{rks:List (List RKv)}{c lf le:Addr}{u:View}{ps:List Pc}{kvs:List (List Key×V)} (q:WhP P w CS CL CT H ad h w' b rks c lf le u ps kvs):∀m∈mutS ad lf le,∀xs,H m≠some (.tup xs):=fun m hm xs e=>by
 rcases List.mem_cons.mp hm with z|hm
 ·rw[z,q.td.fl]at e;cases e
 rcases List.mem_cons.mp hm with z|hm
 ·rw[z,q.td.el]at e;cases e
 rcases List.mem_cons.mp hm with z|hm
 ·rw[z,q.pc.at']at e;cases e
 rcases List.mem_cons.mp hm with z|hm
 ·rw[z,q.br.at']at e;cases e
 ·exact q.sh.not e hm
theorem WhP.tk {H H':Hp}{ad:SAd}{h w':Nat}{b:Brd}{rks:List (List RKv)}{c lf le:Addr}{u:View}{ps:List Pc}{kvs:List (List Key×V)} (q:WhP P w CS CL CT H ad h w' b rks c lf le u ps kvs) (k:Qz2 H H' (mutS ad lf le)):TupK H H':=fun x xs hx=>k _ _ hx fun z=>q.ntup _ z _ hx
theorem ShP.fixlive {H:Hp}{ad:SAd}{h w':Nat}{b:Brd}{rks:List (List RKv)} (p:ShP P w CS CL H ad h w' b rks) {x:Addr} (z:x∈fixS ad):∃o,H x=some o∧∀kv,o≠.dT kv:=by
 unfold fixS at z
 rcases List.mem_cons.mp z with e|z
 ·obtain⟨dx,hS⟩:=p.ins;exact⟨_,by rw[e];exact hS,fun _ z=>by cases z⟩
 rcases List.mem_cons.mp z with e|z
 ·exact⟨_,by rw[e];exact p.lst,fun _ z=>by cases z⟩
 rcases List.mem_append.mp z with z|z
 ·obtain⟨i,hi,e⟩:=List.getElem_of_mem z
  obtain⟨a,lc,dk,dr,rk,q⟩:=p.line i (by rw[←p.len];exact hi)
  obtain⟨dx,sh,hc⟩:=q.ins
  have:=q.ea
  rw[List.getElem?_eq_getElem hi,e]at this
  cases this
  exact⟨_,hc,fun _ z=>by cases z⟩
 ·obtain⟨i,hi,e⟩:=List.getElem_of_mem z
  obtain⟨a,lc,dk,dr,rk,q⟩:=p.line i (by rw[←p.lc];exact hi)
  obtain⟨kv,li⟩:=q.li
  obtain⟨dx,sh,hc⟩:=q.ins
  obtain⟨_,_,lc2,h1,_,h3⟩:=li.ln.ex
  have elc:lc2=lc:=by
   rw[hc]at h1
   have e:=(HO.ins.inj (Option.some.inj h1)).2.2
   have:=congrArg (fun fs=>List.lookup ("choices" : Str) fs) e
   simp only[Qn4]at this
   exact(V.ref.inj (Option.some.inj this)).symm
  have:=q.ec
  rw[List.getElem?_eq_getElem hi,e,←elc]at this
  cases this
  exact⟨_,h3,fun _ z=>by cases z⟩
theorem Zh3 {f:Addr}{fd:FuncData} (n lv:Nat) (hlv:3≤lv) (F:Fun K "tree" "Search.tree" Qf2 f fd) (TS:ST K CS) (m_narrow:Method P w K mg base CX0 CS "narrow" 3 ["self","told","changed","forced"] (Zu4 P w CS CL CT)) (m_open_tree:Method P w K mg base CX0 CS "open_tree" lv ["self","told"] (Xq4 P w CS CL CT n))
  (c_with_forced:Callee P w K mg base CX0 "with_forced" 1 ["forced","inner"] Xv2):FnOk P w K mg base CX0 (lv+1) f fd ["self","told","changed"] (Qe0 P w CS CL CT n):=by
 refine F.ok Qn5 (fun vs H Q E h=>?_) (fun cdv A outer s H vs Q E hr h=>?_)
 ·obtain⟨ad,h,w',b,rks,c,lf,le,lch,v,cs,ps,kvs,rfl,_⟩:=h
  rfl
 ·obtain⟨ad,h,w',b,rks,c,lf,le,lch,v,cs,ps,kvs,rfl,wh,hun,hn16,hsz,hch,hcl,hcs,hcalm,k⟩:=h
  refine⟨_,(Qq4 (Qz6 (i:=3) Qn5.nd rfl (Or.inl rfl) (Qv7 Qq3))
   (Qq4 (Qz6 (i:=4) Qn5.nd rfl (Or.inl rfl) (Qp0 m_narrow (pv 0) hr (Qq0 (pv 1) (Qq0 (pv 2) (Qq0 (pv 3) Qq3))) (hk:=hlv)))
   (Qs4 (Qz6 (i:=5) Qn5.nd rfl (Or.inl rfl) (Zk1 (Qz8 Zf1 (pv 4) Qg4 (Qx2 _)) (Qp0 m_open_tree (pv 0) hr (Qq0 (pv 1) Qq3) (hk:=Nat.le_refl _)) (pv 4)))
   (Qq8 (Qz9 (Qj6 c_with_forced hr (Qq0 (pv 3) (Qq0 (pv 5) Qq3)) (hk:=by omega))))))),?_⟩
  refine⟨Nat.zero_le _,fun lfo hlfo=>?_⟩
  have s1:Same H (upd H lfo (.lst [])):=Qq5 hlfo
  have hlfo1:(upd H lfo (.lst [])) lfo=some (.lst []):=Qq1
  generalize upd H lfo (.lst [])=H1 at s1 hlfo1 ⊢
  have sh1:=wh.sh.mono s1
  have td1:=wh.td.mono s1
  obtain⟨dxS,hS⟩:=sh1.ins
  have nl1:lfo≠lf:=fun e=>by rw[e,wh.td.fl]at hlfo;cases hlfo
  have nl2:lfo≠le:=fun e=>by rw[e,wh.td.el]at hlfo;cases hlfo
  have nl3:lfo≠ad.lp:=fun e=>by rw[e,wh.pc.at']at hlfo;cases hlfo
  have nl4:lfo≠ad.db:=fun e=>by rw[e,wh.br.at']at hlfo;cases hlfo
  have nl5:∀a∈ps.flatMap pcAd,a≠lfo:=fun a ha e=>by
   obtain⟨xs,hx⟩:=wh.pc.live a ha
   rw[e,hlfo]at hx;cases hx
  have nlf:lfo∉fixS ad:=fun z=>by
   obtain⟨o,e,_⟩:=wh.sh.fixlive z
   rw[hlfo]at e;cases e
  refine⟨_,rfl,ad.S,dxS,_,rfl,hS,Zv7 _ _ _ _ _ (by decide +kernel) (by decide +kernel) (by decide +kernel) (by decide +kernel) (by decide +kernel),_,rfl,_,rfl,_,rfl,
   ad,h,w',b,rks,c,lf,le,lch,lfo,v,cs,rfl,wh.bs,sh1,td1,wh.vo,by omega,s1 _ _ hch,hcl,hcs,hcalm,hlfo1,wh.n1.1,wh.n1.2.1,nlf,nl1,nl2,fun H2 u fs val rks2 k2 sh2 rl2 td2 vo2 tells hfo hv=>?_⟩
  obtain⟨us,hfo2,hfc2⟩:=hfo
  have ntM:∀m∈lf::le::lfo::dicS ad,∀xs,H1 m≠some (.tup xs):=fun m hm xs e=>by
   rcases List.mem_cons.mp hm with z|hm
   ·rw[z,td1.fl]at e;cases e
   rcases List.mem_cons.mp hm with z|hm
   ·rw[z,td1.el]at e;cases e
   rcases List.mem_cons.mp hm with z|hm
   ·rw[z,hlfo1]at e;cases e
   ·rcases sh1.dic hm with ⟨_,z⟩|⟨_,z⟩<;>rw[e]at z<;>cases z
  have tk2:TupK H1 H2:=fun x xs hx=>k2 _ _ hx fun z=>ntM _ z _ hx
  have pc1:=wh.pc.mono s1
  have pc2:PcP H2 ad.lp ps:=pc1.keep k2 (by
   have:=sh1.nol pc1.at'
   simp[wh.n2.1,wh.n2.2,Ne.symm nl3,this]) (fun a ha=>by
   obtain⟨xs,hx⟩:=pc1.live a ha
   have:=sh1.nol hx
   obtain⟨q1,q2,_⟩:=wh.n3 a ha
   simp[q1,q2,nl5 a ha,this])
  have hdb1:=s1 _ _ wh.br.at'
  have hdb2:H2 ad.db=some (.dT kvs):=k2 _ _ hdb1 (by
   have a1:ad.db≠lf:=fun e=>by rw[e,td1.fl]at hdb1;cases hdb1
   have a2:ad.db≠le:=fun e=>by rw[e,td1.el]at hdb1;cases hdb1
   simp[a1,a2,Ne.symm nl4,wh.dbn])
  have br2:BrP H2 h w' b rks2 ad.db kvs:=wh.br.keep hdb2 ((TupK.of s1).trans tk2) rl2
  have hun2:unk u≤unk v:=Yb3 wh.vo vo2 (tells.le wh.vo)
  have wh2:WhP P w CS CL CT H2 ad h w' b rks2 c lf le u ps kvs:=⟨wh.bs,sh2,td2,vo2,pc2,br2,wh.two,wh.n1,wh.n2,wh.n3⟩
  have lfoM:lfo∉mutS ad lf le:=by
   have:=sh2.nol hfo2
   simp[mutS,nl1,nl2,nl3,nl4,this]
  obtain⟨dxS2,hS2⟩:=sh2.ins
  refine⟨fun σ' H'=>∃(shv v5:V) (t':Tree) (ps':List Pc),σ'=[some (.ref ad.S),some (.ref c),some (.ref lch),some (.ref lfo),some shv,some v5]∧EndP P w CS CL H2 H' ad h w' b rks2 lf le u t' ps kvs (2^(n+1)-1) v5 ps'∧H' lfo=some (.lst us)∧TupK H2 H',?_,?_⟩
  ·refine⟨_,rfl,rfl,_,rfl,?_⟩
   rcases hv with ⟨rfl,hc⟩|⟨l,sh,hl,hno,rfl,hT⟩
   ·refine iteT ?_
    refine⟨_,rfl,ad.S,dxS2,_,rfl,hS2,Zv7 _ _ _ _ _ (by decide +kernel) (by decide +kernel) (by decide +kernel) (by decide +kernel) (by decide +kernel),_,rfl,
     ad,h,w',b,rks2,c,lf,le,u,ps,kvs,rfl,wh2,by omega,hn16,hsz,fun l hl=>?_,fun H3 val3 t3 ps3 e3=>⟨.non,val3,t3,ps3,rfl,e3,e3.kept _ _ hfo2 lfoM,wh2.tk e3.kept⟩⟩
    obtain⟨i,hi,rfl⟩:=Xm7 hl
    exact hc i hi
   ·refine iteF ?_
    exact⟨_,rfl,.ref sh,.ref sh,.shut l.1 l.2,ps,rfl,⟨fun _ _ hx _=>hx,⟨rks2,sh2,RkLe.refl _,kvs,br2,Nat.le_add_right _ _⟩,pc2,⟨[],(List.append_nil _).symm,fun a ha=>by cases ha⟩,hT,Found.shut hl hno _⟩,hfo2,TupK.refl _⟩
  ·rintro σ' H' ⟨shv,v5,t',ps',rfl,en,hl',tk'⟩
   refine⟨_,rfl,_,rfl,lfo,us,fs,v5,t',rfl,hl',hfc2.mono tk',tells.bits,en.tr,fun v6 H6 s6 t6=>k H6 v6 (Zj8 fs t') ps' ?_⟩
   obtain⟨rks3,sh3,rl3,kvs3,br3,hk3⟩:=en.sh
   obtain⟨mo,eps,hmo⟩:=en.on
   refine⟨fun x o hx hxm=>?_,⟨rks3,sh3.mono s6,rl2.trans rl3,kvs3,br3.keep (s6 _ _ br3.at') (TupK.of s6) (RkLe.refl _),hk3⟩,en.pc.mono s6,⟨mo,eps,fun a ha=>?_⟩,t6,en.fd.force wh.bs.ok tells wh.vo⟩
   ·have hx1:=s1 _ _ hx
    have q1:x≠lfo:=fun e=>by rw[e,hlfo]at hx;cases hx
    have q2:x∉lf::le::lfo::dicS ad:=by
     simp only[mutS,List.mem_cons,not_or]at hxm ⊢
     exact⟨hxm.1,hxm.2.1,q1,hxm.2.2.2.2⟩
    exact s6 _ _ (en.kept _ _ (k2 _ _ hx1 q2) hxm)
   ·have hn:=hmo a ha
    cases hx:H a with
    | none=>rfl
    | some o =>
     exfalso
     have q2:a∈lf::le::lfo::dicS ad:=Classical.byContradiction fun z=>by
      rw[k2 _ _ (s1 _ _ hx) z]at hn
      cases hn
     rcases List.mem_cons.mp q2 with z|hm
     ·rw[z,td2.fl]at hn;cases hn
     rcases List.mem_cons.mp hm with z|hm
     ·rw[z,td2.el]at hn;cases hn
     rcases List.mem_cons.mp hm with z|hm
     ·rw[z,hfo2]at hn;cases hn
     ·rcases sh2.dic hm with ⟨_,z⟩|⟨_,z⟩<;>rw[hn]at z<;>cases z
end
section
variable {P:Program}{w:World}{K:PySem.W.Frag}{mg:Str→Option Value}{base:Heap}{CS CL CT:Addr}
variable {H H' H0:Hp}{ad:SAd}{h w':Nat}{b:Brd}{rks rks':List (List RKv)}{c lf le:Addr}{u:View}{ps:List Pc}{kvs:List (List Key×V)}
structure Way (H H':Hp) (ad:SAd):Prop where
 kept:Qz2 H H' (ad.lp::ad.db::dicS ad)
 live:∀a o,H a=some o→∃o',H' a=some o'
theorem Way.of {H H':Hp}{ad:SAd} (s:Same H H'):Way H H' ad:=⟨Qg2 s,fun a o e=>⟨o,s _ _ e⟩⟩
theorem Way.trans {H H1 H2:Hp}{ad:SAd} (x:Way H H1 ad) (y:Way H1 H2 ad):Way H H2 ad:=⟨Qw4 x.kept y.kept,fun a o e=>by
 obtain⟨o',e'⟩:=x.live a o e
 exact y.live a o' e'⟩
theorem Way.free {H H':Hp}{ad:SAd} (x:Way H H' ad) {a:Addr} (e:H' a=none):H a=none:=by
 cases q:H a with
 | none=>rfl
 | some o =>
  obtain⟨o',e'⟩:=x.live a o q
  rw[e]at e'
  cases e'
theorem Way.up {H H':Hp}{ad:SAd} (x:Way H H' ad) {a:Addr}{o:HO} (m:a∈ad.lp::ad.db::dicS ad):Way H (upd H' a o) ad:=x.trans ⟨Qn3 m,fun b o' e=>by
 by_cases q:b=a
 ·exact⟨o,by rw[q];exact Qq1⟩
 ·exact⟨o',by rw[Qz1 q];exact e⟩⟩
theorem WhP.mono (q:WhP P w CS CL CT H ad h w' b rks c lf le u ps kvs) (s:Same H H'):WhP P w CS CL CT H' ad h w' b rks c lf le u ps kvs :=
 ⟨q.bs,q.sh.mono s,q.td.mono s,q.vo,q.pc.mono s,q.br.keep (s _ _ q.br.at') (TupK.of s) (RkLe.refl _),q.two,q.n1,q.n2,q.n3⟩
theorem WhP.asked (q:WhP P w CS CL CT H ad h w' b rks c lf le u ps kvs) (k:Qz2 H H' (dicS ad)) (sh:ShP P w CS CL H' ad h w' b rks') (rl:RkLe rks rks') (td:TdP CT H' c lf le h w' u):WhP P w CS CL CT H' ad h w' b rks' c lf le u ps kvs∧Way H H' ad:=by
 refine⟨⟨q.bs,sh,td,q.vo,q.pc.keep k (q.sh.nol q.pc.at') (fun a ha=>?_),q.br.keep (k _ _ q.br.at' q.dbn) (fun x xs hx=>k _ _ hx (q.sh.not hx)) rl,q.two,q.n1,q.n2,q.n3⟩,Qu0 k (fun a ha=>by simp[ha]),fun a o e=>?_⟩
 ·obtain⟨xs,hx⟩:=q.pc.live a ha
  exact q.sh.nol hx
 ·by_cases z:a∈dicS ad
  ·rcases sh.dic z with ⟨_,z⟩|⟨_,z⟩<;>exact⟨_,z⟩
  ·exact⟨o,k _ _ e z⟩
theorem WhP.twin (q:WhP P w CS CL CT H ad h w' b rks c lf le u ps kvs) (s:Same H H') {c' lf' le':Addr}{u':View} (n1:H lf'=none) (n2:H le'=none) (td:TdP CT H' c' lf' le' h w' u') (vo:VOk h w' u'):WhP P w CS CL CT H' ad h w' b rks c' lf' le' u' ps kvs:=by
 have q':=q.mono s
 have nf:∀{x:Addr},H x=none→x∉fixS ad:=fun hx z=>by
  obtain⟨o,e,_⟩:=q.sh.fixlive z
  rw[hx]at e;cases e
 have np:∀{x y:Addr}{o:HO},H x=none→H y=some o→y≠x:=fun hx hy e=>by rw[e,hx]at hy;cases hy
 refine⟨q.bs,q'.sh,td,vo,q'.pc,q'.br,q.two,⟨nf n1,nf n2,q.n1.2.2⟩,⟨np n1 q.pc.at',np n2 q.pc.at'⟩,fun a ha=>?_⟩
 obtain⟨xs,hx⟩:=q.pc.live a ha
 exact⟨np n1 hx,np n2 hx,(q.n3 a ha).2.2⟩
section
variable {c' lf' le':Addr}{u' v:View}{t:Tree}{m:Nat}{val:V}{ps':List Pc}
theorem EndP.way (x:Way H0 H ad) (e:EndP P w CS CL H H' ad h w' b rks lf' le' v t ps kvs m val ps') (n1:H0 lf'=none) (n2:H0 le'=none):Way H0 H' ad:=by
 have np:∀{x y:Addr}{o:HO},H0 x=none→H0 y=some o→y≠x:=fun hx hy e=>by rw[e,hx]at hy;cases hy
 refine⟨fun a o ha hm=>?_,fun a o ha=>?_⟩
 ·refine e.kept _ _ (x.kept _ _ ha hm) fun z=>?_
  rcases List.mem_cons.mp z with z|z
  ·exact np n1 ha z
  rcases List.mem_cons.mp z with z|z
  ·exact np n2 ha z
  ·exact hm z
 ·obtain⟨o1,e1⟩:=x.live a o ha
  by_cases z:a∈mutS ad lf' le'
  ·rcases List.mem_cons.mp z with z|z
   ·exact absurd z (np n1 ha)
   rcases List.mem_cons.mp z with z|z
   ·exact absurd z (np n2 ha)
   rcases List.mem_cons.mp z with z|z
   ·rw[z];exact⟨_,e.pc.at'⟩
   obtain⟨rks',sh,_,kvs',br,_⟩:=e.sh
   rcases List.mem_cons.mp z with z|z
   ·rw[z];exact⟨_,br.at'⟩
   ·rcases sh.dic z with ⟨_,z⟩|⟨_,z⟩<;>exact⟨_,z⟩
  ·exact⟨o1,e.kept _ _ e1 z⟩
theorem WhP.next (q:WhP P w CS CL CT H ad h w' b rks c lf le u ps kvs) (x:Way H H' ad) (e:EndP P w CS CL H0 H' ad h w' b rks lf' le' v t ps kvs m val ps') (x0:Way H H0 ad) (two:ps'.length≤1) :
  ∃rks' kvs',WhP P w CS CL CT H' ad h w' b rks' c lf le u ps' kvs'∧RkLe rks rks'∧kvs'.length≤kvs.length+m:=by
 obtain⟨rks',sh,rl,kvs',br,hl⟩:=e.sh
 obtain⟨mo,eps,hmo⟩:=e.on
 have nd:∀{y:Addr}{xs:List V},H y=some (.lst xs)→y≠ad.lp→y∉ad.lp::ad.db::dicS ad:=fun hy ne z=>by
  rcases List.mem_cons.mp z with z|z
  ·exact ne z
  rcases List.mem_cons.mp z with z|z
  ·rw[z,q.br.at']at hy;cases hy
  ·exact q.sh.nol hy z
 obtain⟨dx,hc⟩:=q.td.ins
 have nc:c∉ad.lp::ad.db::dicS ad:=fun z=>by
  rcases List.mem_cons.mp z with z|z
  ·rw[z,q.pc.at']at hc;cases hc
  rcases List.mem_cons.mp z with z|z
  ·rw[z,q.br.at']at hc;cases hc
  ·exact q.sh.noi hc z
 have np:∀{a y:Addr}{o:HO},H a=none→H y=some o→a≠y:=fun hx hy e=>by rw[e,hy]at hx;cases hx
 refine⟨rks',kvs',⟨q.bs,sh,q.td.keep x.kept nc (nd q.td.fl (Ne.symm q.n2.1)) (nd q.td.el (Ne.symm q.n2.2)),q.vo,e.pc,br,two,q.n1,q.n2,fun a ha=>?_⟩,rl,hl⟩
 rw[eps,List.flatMap_append]at ha
 rcases List.mem_append.mp ha with z|z
 ·exact q.n3 a z
 ·have hn:=x0.free (hmo a z)
  refine⟨np hn q.td.fl,np hn q.td.el,fun z=>?_⟩
  obtain⟨o,e,_⟩:=q.sh.fixlive z
  rw[hn]at e;cases e
end
theorem WhP.pict (q:WhP P w CS CL CT H ad h w' b rks c lf le u ps kvs) (hc:∀l,LOk h w' l→Calm h w' b u l) (d:Done h w' u) {l t:Addr}{as:List Addr} (o:OwnV H H' l as ((picZ u).map fun xs=>xs.map V.int)) (m:Nat)
  (ht:(upd H' ad.lp (.lst (ps.map (fun p=>V.ref p.l)++[.ref l]))) t=none) :
  EndP P w CS CL H (upd (upd H' ad.lp (.lst (ps.map (fun p=>V.ref p.l)++[.ref l]))) t (.tup [.str "picture"])) ad h w' b rks lf le u .pic ps kvs m (.ref t) (ps++[⟨l,as,u⟩]):=by
 have q1:=q.mono o.same
 have s2:Same (upd H' ad.lp (.lst (ps.map (fun p=>V.ref p.l)++[.ref l]))) (upd (upd H' ad.lp (.lst (ps.map (fun p=>V.ref p.l)++[.ref l]))) t (.tup [.str "picture"])):=Qq5 ht
 have kp:Qz2 H' (upd H' ad.lp (.lst (ps.map (fun p=>V.ref p.l)++[.ref l]))) [ad.lp]:=Qn3 (by simp)
 have tk:TupK H' (upd H' ad.lp (.lst (ps.map (fun p=>V.ref p.l)++[.ref l]))):=TupK.upd q1.pc.at' (fun xs z=>by cases z)
 have np:∀{a y:Addr}{o:HO},H a=none→H y=some o→y≠a:=fun hx hy e=>by rw[e,hx]at hy;cases hy
 have nlp:∀a∈l::as,ad.lp≠a:=fun a ha=>by
  rcases List.mem_cons.mp ha with e|e
  ·rw[e];exact np o.newl q.pc.at'
  ·exact np (o.new a e) q.pc.at'
 have pc1:PcP (upd H' ad.lp (.lst (ps.map (fun p=>V.ref p.l)++[.ref l]))) ad.lp (ps++[⟨l,as,u⟩]):=by
  refine⟨?_,fun p hp=>?_,?_,?_⟩
  ·rw[Qq1,List.map_append];rfl
  ·rcases List.mem_append.mp hp with z|z
   ·obtain⟨h1,h2,h3⟩:=q1.pc.con p z
    have ne:∀a∈pcAd p,a≠ad.lp:=fun a ha e=>q.pc.np (e▸List.mem_flatMap.mpr ⟨p,z,ha⟩)
    exact⟨by rw[Qz1 (ne _ (by unfold pcAd;simp))];exact h1,h2,fun i a xs e1 e2=>by rw[Qz1 (ne _ (by unfold pcAd;simp[List.mem_of_getElem? e1]))];exact h3 i a xs e1 e2⟩
   ·rw[List.mem_singleton.mp z]
    refine⟨by rw[Qz1 (Ne.symm (nlp _ (by simp)))];exact o.at',by have:=o.len;rw[List.length_map]at this;exact this,fun i a xs e1 e2=>?_⟩
    rw[Qz1 (Ne.symm (nlp a (by simp[List.mem_of_getElem? e1])))]
    exact o.row i a _ e1 (by rw[List.getElem?_map,e2];rfl)
  ·rw[List.flatMap_append,List.flatMap_singleton]
   refine List.nodup_append.mpr ⟨q.pc.nd,List.nodup_cons.mpr ⟨o.nl,o.nd⟩,fun x hx y hy=>?_⟩
   obtain⟨xs,hx⟩:=q.pc.live x hx
   rcases List.mem_cons.mp hy with e|e
   ·rw[e];exact np o.newl hx
   ·exact np (o.new y e) hx
  ·rw[List.flatMap_append,List.flatMap_singleton]
   intro z
   rcases List.mem_append.mp z with z|z
   ·exact q.pc.np z
   ·exact nlp _ z rfl
 have hdb:ad.db≠ad.lp:=fun e=>by
  have:=q.br.at'
  rw[e,q.pc.at']at this;cases this
 refine⟨fun a x ha hm=>s2 _ _ (kp _ _ (o.same _ _ ha) (by simp only[mutS,List.mem_cons,not_or]at hm;simpa using hm.2.2.1)),⟨rks,(q1.sh.put q1.pc.at' q.n1.2.2).mono s2,RkLe.refl _,kvs,(q1.br.keep (by rw[Qz1 hdb];exact q1.br.at') tk (RkLe.refl _)).keep (s2 _ _ (by rw[Qz1 hdb];exact q1.br.at')) (TupK.of s2) (RkLe.refl _),Nat.le_add_right _ _⟩,pc1.mono s2,⟨[⟨l,as,u⟩],rfl,fun a ha=>?_⟩,Yw6 Qq1,?_⟩
 ·rw[List.flatMap_singleton]at ha
  rcases List.mem_cons.mp ha with e|e
  ·rw[e];exact o.newl
  ·exact o.new a e
 ·rw[List.map_append]
  exact Found.pic q.vo hc d _
theorem Zo0 {h w':Nat}{b:Brd} (ob:BOk h w' b) {u:View} (vo:VOk h w' u) {r cc:Nat}{z:Int} (hz:z=0∨z=1) (hr:r<h) (hc:cc<w') (op:Qz5 u r cc=none) (C:∀l,LOk h w' l→Calm h w' b u l):∀i,i<h+w'→i∉[r,h+cc]→Calm h w' b (setC u r cc (some z)) (Qq2 h i):=fun i hi hn=>by
 refine Calm.other ob vo (Qm1 hi) hz hr hc op (fun q hq e=>?_) (C _ (Qm1 hi))
 have e2:posL (Qq2 h i) q=posL (Qq2 h r) cc:=by rw[e,Zv8 hr]
 rcases Xj1 (w':=w') (by omega) (by rw[Qb7 hr];exact hc) hi e2 with g|g
 ·exact hn (by rw[g];simp)
 ·unfold Qg9 at g
  rw[if_pos hr]at g
  exact hn (by rw[g];simp)
theorem Yw9 {xs ys:List Int} (e:xs.map (Sum.inl:Int→Key)=ys.map Sum.inl):xs=ys:=by
 induction xs generalizing ys with
 | nil=>cases ys with
  | nil=>rfl
  | cons y ys=>cases e
 | cons x xs ih=>cases ys with
  | nil=>cases e
  | cons y ys =>
   rw[List.map_cons,List.map_cons]at e
   have e1:=(List.cons.inj e).1
   rw[Sum.inl.inj e1,ih (List.cons.inj e).2]
theorem Yb9 (xs:List Int):(xs.map (Sum.inl:Int→Key)).map kV=xs.map V.int:=by rw[List.map_map];rfl
theorem Yz0 {h w':Nat}{b:Brd}{v u:View}{rks:List (List RKv)}{ids:List Int} (x:Qi3 h w' b v rks (h+w') ids) (y:Qi3 h w' b u rks (h+w') ids):∀l,LOk h w' l→Qa4 (Qj9 h w' b v l)=Qa4 (Qj9 h w' b u l):=fun l hl=>by
 obtain⟨i,hi,rfl⟩:=Xm7 hl
 obtain⟨rk,n,bb,a1,a2,a3⟩:=x.2 i hi
 obtain⟨rk',n',bb',b1,b2,b3⟩:=y.2 i hi
 rw[a1]at b1
 cases b1
 rw[a2]at b2
 have en:n=n':=by have:=Option.some.inj b2;omega
 subst en
 rw[a3]at b3
 exact Yw7 (congrArg Prod.fst (Option.some.inj b3))
theorem WhP.nfix (q:ShP P w CS CL H ad h w' b rks) (e:H ad.db=some (.dT kvs)):ad.db∉fixS ad:=fun z=>by
 obtain⟨o,e',g⟩:=q.fixlive z
 rw[e]at e'
 exact g _ (Option.some.inj e').symm
theorem ShP.ndic (q:ShP P w CS CL H ad h w' b rks) (e:H ad.db=some (.dT kvs)):ad.db∉dicS ad:=fun z=>by
 unfold dicS at z
 rcases List.mem_append.mp z with z|z
 ·exact q.ndb z
 ·obtain⟨i,hi,e'⟩:=List.getElem_of_mem z
  obtain⟨a,lc,dk,dr,rk,p⟩:=q.line i (by rw[←q.lr];exact hi)
  obtain⟨kv,li⟩:=p.li
  have:=p.er
  rw[List.getElem?_eq_getElem hi,e']at this
  cases this
  have:=li.rp.at'
  rw[e]at this
  cases this
theorem Xl6 {t:Tree}{ids:List Int}{v:V} (sh:ShP P w CS CL H ad h w' b rks) (br:BrP H h w' b rks ad.db kvs) (pc:PcP H ad.lp ps) (vo:VOk h w' u) (hc:∀l,LOk h w' l→Calm h w' b u l) (hT:IsT H t v) (hid:Qi3 h w' b u rks (h+w') ids) (hL:Leaf h w' b t u []) :
  ShP P w CS CL (upd H ad.db (.dT (putK kvs (ids.map Sum.inl) v))) ad h w' b rks∧BrP (upd H ad.db (.dT (putK kvs (ids.map Sum.inl) v))) h w' b rks ad.db (putK kvs (ids.map Sum.inl) v)∧PcP (upd H ad.db (.dT (putK kvs (ids.map Sum.inl) v))) ad.lp ps∧TupK H (upd H ad.db (.dT (putK kvs (ids.map Sum.inl) v))):=by
 have kp:Qz2 H (upd H ad.db (.dT (putK kvs (ids.map Sum.inl) v))) [ad.db]:=Qn3 (by simp)
 have tk:TupK H (upd H ad.db (.dT (putK kvs (ids.map Sum.inl) v))):=TupK.upd br.at' (fun xs z=>by cases z)
 have nl:∀{a:Addr}{xs:List V},H a=some (.lst xs)→a∉[ad.db]:=fun ha z=>by
  rw[List.mem_singleton.mp z,br.at']at ha;cases ha
 refine⟨sh.keep kp (fun m hm=>by rw[List.mem_singleton.mp hm];exact WhP.nfix sh br.at') (fun m hm=>by rw[List.mem_singleton.mp hm];exact sh.ndic br.at') (fun m hm xs e=>by rw[List.mem_singleton.mp hm,br.at']at e;cases e),⟨Qq1,fun ids' v' hv'=>?_⟩,pc.keep kp (nl pc.at') (fun a ha=>by obtain⟨xs,hx⟩:=pc.live a ha;exact nl hx),tk⟩
 rw[Zr6]at hv'
 split at hv'
 ·rename_i e
  cases hv'
  rw[Yw9 e]
  exact⟨t,u,hT.mono tk,vo,hc,hid,hL⟩
 ·obtain⟨t',u0,h1,h2,h3,h4,h5⟩:=br.val ids' v' hv'
  exact⟨t',u0,h1.mono tk,h2,h3,h4,h5⟩
theorem Found.none_leaf {h w:Nat}{b:Brd}{v:View}{t:Tree}{ps qs:List View} (F:Found h w b v t ps qs) (e:qs.length=ps.length) (two:ps.length≤1):Leaf h w b t v []:=by
 obtain⟨ns,e1,_,_,g⟩:=F.new
 have:ns=[]:=by
  have:=congrArg List.length e1
  rw[List.length_append]at this
  exact List.length_eq_zero_iff.mp (by omega)
 rw[this]at g
 exact g (by omega)
end
section
variable {P:Program}{w:World}{K:PySem.W.Frag}{mg:Str→Option Value}{base:Heap}{CS CL CT:Addr}
theorem Qj2:FnScope ["self","told","cell","rests","row","column","crossed","former","second","first","tree"] ["self","told"] (Qz0 Qv2):=⟨rfl,rfl,rfl,by decide +kernel,rfl,by decide +kernel,by decide +kernel⟩
theorem Yz1 {f:Addr}{fd:FuncData} (F:Fun K "open_tree" "Search.open_tree" Qv2 f fd) (TS:ST K CS) (T:TT K CT) (m_first_open:Method P w K mg base CX0 CT "first_open" 1 ["self","columns"] (Qo7 CT)) (m_picture:Method P w K mg base CX0 CT "picture" 2 ["self","columns"] (Zk0 CT)) :
  FnOk P w K mg base CX0 4 f fd ["self","told"] (Xq4 P w CS CL CT 0):=by
 refine F.ok Qj2 (fun vs H Q E h=>?_) (fun cdv A outer s H vs Q E hr h=>?_)
 ·obtain⟨ad,h,w',b,rks,c,lf,le,u,ps,kvs,rfl,_⟩:=h
  rfl
 ·obtain⟨ad,h,w',b,rks,c,lf,le,u,ps,kvs,rfl,wh,hun,hn16,hsz,hcalm,k⟩:=h
  refine⟨_,(Qq4 (Qz6 (i:=2) Qj2.nd rfl (Or.inl rfl) (Qp0 m_first_open (pv 1) hr (Qq0 (Qx4 (pv 0) rfl) Qq3)))
   (Qq4 (Qk1 (Qz8 Zf1 (pv 2) Qg4 (Qx2 _))
   (Qq4 (Qh8 (Qs7 PySem.F.plainAttrs_list PySem.F.slot_list_append PySem.F.type_list_append Qd3 (Qx4 (pv 0) rfl) (Qq0 (Qp0 m_picture (pv 1) hr (Qq0 (Qx4 (pv 0) rfl) Qq3)) Qq3)))
   (Qq8 (Qz9 (Qy9 (Qq0 Qy7 Qq3)))))
   Qx8)
   (Qq4 Qy3 (Qq4 Qy3 (Qq4 Qy3 (Qq4 Qy3 (Qq4 Qy3 (Qq4 Qy3 (Qq4 Qy3 (Qq4 Qy3 (Qq4 Qy3 (Qq4 Qy3 (Qq4 Qy3 (Qq8 Qy3)))))))))))))),?_⟩
  obtain⟨dxS,hS⟩:=wh.sh.ins
  obtain⟨dxc,hc⟩:=wh.td.ins
  refine⟨_,rfl,c,dxc,_,rfl,hc,Zq6 _ _ _ (by decide +kernel) (by decide +kernel) (by decide +kernel),_,rfl,ad.S,CS,dxS,_,_,rfl,hS,TS.cl,TS.nC,Zx7 _ _ _ _ _,c,lf,le,h,w',u,rfl,wh.td,wh.vo,wh.bs.hh,wh.bs.hw,fun d=>?_,fun r cc t hr' hc' op ht=>?_⟩
  ·refine⟨_,rfl,rfl,_,rfl,iteT ?_⟩
   refine⟨_,rfl,ad.S,CS,dxS,_,_,rfl,hS,TS.cl,TS.nP,Qr9 _ _ _ _ _,.inl ⟨rfl,_,SqL.of wh.pc.at'⟩,_,rfl,c,dxc,_,rfl,hc,Zq6 _ _ _ (by decide +kernel) (by decide +kernel) (by decide +kernel),_,rfl,ad.S,CS,dxS,_,_,rfl,hS,TS.cl,TS.nC,Zx7 _ _ _ _ _,c,lf,le,h,w',u,rfl,wh.td,wh.vo,d,wh.bs.hh,wh.bs.hw,fun l as H1 own=>?_⟩
   refine⟨ad.lp,_,_,rfl,rfl,own.same _ _ wh.pc.at',(by rw[List.length_map];have h1:=wh.two;have h2:100≤sizeLine:=(by decide);omega),?_⟩
   refine⟨by show 1≤sizeLine;decide,fun t ht=>k _ _ .pic _ (wh.pict hcalm d own _ ht)⟩
  ·exfalso
   have:=Zg4 wh.vo (wh.vo.setC hr' (Or.inr (Or.inl rfl))) (Qr8 wh.vo hr' hc' op) hr' hc' op (by rw[Qk8 wh.vo hr' hc',if_pos ⟨rfl,rfl⟩];exact fun z=>nomatch z)
   omega
end
section
variable {P:Program}{w:World}{K:PySem.W.Frag}{mg:Str→Option Value}{base:Heap}{CS CL CT:Addr}
theorem Yz2 {f:Addr}{fd:FuncData} (n lv:Nat) (hlv:3≤lv) (F:Fun K "open_tree" "Search.open_tree" Qv2 f fd) (B:Bt mg) (TS:ST K CS) (T:TT K CT) (m_first_open:Method P w K mg base CX0 CT "first_open" 1 ["self","columns"] (Qo7 CT)) (m_picture:Method P w K mg base CX0 CT "picture" 2 ["self","columns"] (Zk0 CT))
  (m_rests_of:Method P w K mg base CX0 CS "rests_of" 3 ["self","told"] (Zu5 P w CS CL CT)) (m_twin_with:Method P w K mg base CX0 CT "twin_with" 3 ["self","row","column","value"] (Zg9 CT)) (m_tree:Method P w K mg base CX0 CS "tree" lv ["self","told","changed"] (Qe0 P w CS CL CT n)) :
  FnOk P w K mg base CX0 (lv+1) f fd ["self","told"] (Xq4 P w CS CL CT (n+1)):=by
 refine F.ok Qj2 (fun vs H Q E h=>?_) (fun cdv A outer s H vs Q E hr h=>?_)
 ·obtain⟨ad,h,w',b,rks,c,lf,le,u,ps,kvs,rfl,_⟩:=h
  rfl
 ·obtain⟨ad,h,w',b,rks,c,lf,le,u,ps,kvs,rfl,wh,hun,hn16,hsz,hcalm,k⟩:=h
  have hu:(A.deeper (PyProof.Rows.envOfC "Search.open_tree" (Qz0 Qv2) s.heap.objs.size f cdv)).units+1<cLine:=by have:=Qt0 hr;omega
  refine⟨_,(Qq4 (Qz6 (i:=2) Qj2.nd rfl (Or.inl rfl) (Qp0 m_first_open (pv 1) hr (Qq0 (Qx4 (pv 0) rfl) Qq3) (hk:=by omega)))
   (Qq4 (Qk1 (Qz8 Zf1 (pv 2) Qg4 (Qx2 _))
   (Qq4 (Qh8 (Qs7 PySem.F.plainAttrs_list PySem.F.slot_list_append PySem.F.type_list_append Qd3 (Qx4 (pv 0) rfl) (Qq0 (Qp0 m_picture (pv 1) hr (Qq0 (Qx4 (pv 0) rfl) Qq3) (hk:=by omega)) Qq3)))
   (Qq8 (Qz9 (Qy9 (Qq0 Qy7 Qq3)))))
   Qx8)
   (Qq4 (Qz6 (i:=3) Qj2.nd rfl (Or.inl rfl) (Qp0 m_rests_of (pv 0) hr (Qq0 (pv 1) Qq3) (hk:=hlv)))
   (Qq4 (Qk1 (Xc3 (Yb0 hu (pv 3) (Qx4 (pv 0) rfl)))
   (Qq8 (Qz9 (Xf1 hu (Qx4 (pv 0) rfl) (pv 3) (fun _ _=>rfl))))
   Qx8)
   (Qq4 (Qz6 (i:=4) Qj2.nd rfl (Or.inl rfl) (Qx1 (Qx6 K) (pv 2) Qq6 (fun _ _=>rfl)))
   (Qq4 (Qz6 (i:=5) Qj2.nd rfl (Or.inl rfl) (Qx1 (Qx6 K) (pv 2) Qq6 (fun _ _=>rfl)))
   (Qq4 (Qz6 (i:=6) Qj2.nd rfl (Or.inl rfl) (Qv7 (Qq0 (pv 4) (Qq0 (Qz7 Qy1 (Qx4 (pv 0) rfl) (pv 5)) Qq3))))
   (Qq4 (Qz6 (i:=7) Qj2.nd rfl (Or.inl rfl) (Qx0 (Qx5 K) rfl B.len Qj3 (Qq0 (Qx4 (pv 0) rfl) Qq3)))
   (Qq4 (Qz6 (i:=8) Qj2.nd rfl (Or.inl rfl) (Qp0 m_tree (pv 0) hr (Qq0 (Qp0 m_twin_with (pv 1) hr (Qq0 (pv 4) (Qq0 (pv 5) (Qq0 Qq6 Qq3))) (hk:=hlv)) (Qq0 (pv 6) Qq3)) (hk:=Nat.le_refl _)))
   (Qq4 (Qk1 (Qz8 Zi0 (Qx0 (Qx5 K) rfl B.len Qj3 (Qq0 (Qx4 (pv 0) rfl) Qq3)) Qq6 (Qx2 _))
   (Qq8 (Qz9 (pv 8)))
   Qx8)
   (Qq4 (Qz6 (i:=9) Qj2.nd rfl (Or.inl rfl) (Qp0 m_tree (pv 0) hr (Qq0 (Qp0 m_twin_with (pv 1) hr (Qq0 (pv 4) (Qq0 (pv 5) (Qq0 Qq6 Qq3))) (hk:=hlv)) (Qq0 (pv 6) Qq3)) (hk:=Nat.le_refl _)))
   (Qq4 (Qz6 (i:=10) Qj2.nd rfl (Or.inl rfl) (Qy9 (Qq0 Qy7 (Qq0 (pv 4) (Qq0 (pv 5) (Qq0 (pv 9) (Qq0 (pv 8) Qq3)))))))
   (Qq4 (Qk1 (Qz8 Qb5 (Qx0 (Qx5 K) rfl B.len Qj3 (Qq0 (Qx4 (pv 0) rfl) Qq3)) (pv 7) (Qx2 _))
   (Qq8 (Xf2 hu (Qx4 (pv 0) rfl) (pv 3) (pv 10) rfl))
   Qx8)
   (Qq8 (Qz9 (pv 10)))))))))))))))),?_⟩
  have hbig:2^20+100≤sizeLine:=by decide
  have two:=wh.two
  obtain⟨dxS,hS⟩:=wh.sh.ins
  obtain⟨dxc,hc⟩:=wh.td.ins
  refine⟨_,rfl,c,dxc,_,rfl,hc,Zq6 _ _ _ (by decide +kernel) (by decide +kernel) (by decide +kernel),_,rfl,ad.S,CS,dxS,_,_,rfl,hS,TS.cl,TS.nC,Zx7 _ _ _ _ _,c,lf,le,h,w',u,rfl,wh.td,wh.vo,wh.bs.hh,wh.bs.hw,fun d=>?_,fun r cc t0 hrh hcw op ht0=>?_⟩
  ·refine⟨_,rfl,rfl,_,rfl,iteT ?_⟩
   refine⟨_,rfl,ad.S,CS,dxS,_,_,rfl,hS,TS.cl,TS.nP,Qr9 _ _ _ _ _,.inl ⟨rfl,_,SqL.of wh.pc.at'⟩,_,rfl,c,dxc,_,rfl,hc,Zq6 _ _ _ (by decide +kernel) (by decide +kernel) (by decide +kernel),_,rfl,ad.S,CS,dxS,_,_,rfl,hS,TS.cl,TS.nC,Zx7 _ _ _ _ _,c,lf,le,h,w',u,rfl,wh.td,wh.vo,d,wh.bs.hh,wh.bs.hw,fun l as H1 own=>?_⟩
   refine⟨ad.lp,_,_,rfl,rfl,own.same _ _ wh.pc.at',by rw[List.length_map];omega,?_⟩
   refine⟨by show 1≤sizeLine;decide,fun t ht=>k _ _ .pic _ (wh.pict hcalm d own _ ht)⟩
  ·have s1:Same H (upd H t0 (.tup [.int (r:Nat),.int (cc:Nat)])):=Qq5 ht0
   have ht1:(upd H t0 (.tup [.int (r:Nat),.int (cc:Nat)])) t0=some (.tup [.int (r:Nat),.int (cc:Nat)]):=Qq1
   generalize upd H t0 (.tup [.int (r:Nat),.int (cc:Nat)])=H1 at s1 ht1 ⊢
   have wh1:=wh.mono s1
   refine⟨_,rfl,rfl,_,rfl,iteF ?_⟩
   refine⟨_,rfl,ad.S,dxS,_,rfl,s1 _ _ hS,Zv7 _ _ _ _ _ (by decide +kernel) (by decide +kernel) (by decide +kernel) (by decide +kernel) (by decide +kernel),_,rfl,ad,h,w',b,rks,c,lf,le,u,rfl,wh.bs,wh1.sh,wh1.td,wh.vo,hcalm,fun H2 ti ids rks2 k2 sh2 rl2 td2 hti hti1 hid=>?_⟩
   obtain⟨wh2,y2⟩:=wh1.asked k2 sh2 rl2 td2
   have x2:Way H H2 ad:=(Way.of s1).trans y2
   have ht2:H2 t0=some (.tup [.int (r:Nat),.int (cc:Nat)]):=k2 _ _ ht1 (wh1.sh.not ht1)
   obtain⟨dxS2,hS2⟩:=sh2.ins
   have hkt:H2 ti=some (.tup ((ids.map (Sum.inl:Int→Key)).map kV)):=by rw[Yb9];exact hti
   refine⟨_,rfl,_,rfl,ad.S,CS,dxS2,_,_,rfl,hS2,TS.cl,TS.nB,Zu3 _ _ _ _ _,ad.db,_,rfl,DGet.t wh2.br.at' (k:=ids.map Sum.inl) hkt,_,rfl,?_⟩
   cases hv:valV kvs (ids.map (Sum.inl:Int→Key)) with
   | some val =>
    have hg:=DGet.t wh2.br.at' (k:=ids.map Sum.inl) hkt
    rw[hv]at hg
    obtain⟨t,u0,hT,vo0,hc0,hid0,hL⟩:=wh2.br.val ids val hv
    refine iteT ⟨_,rfl,ad.S,CS,dxS2,_,_,rfl,hS2,TS.cl,TS.nB,Zu3 _ _ _ _ _,_,rfl,ad.db,val,rfl,hg,k H2 val t ps ⟨Qu0 x2.kept (fun a ha=>by simp only[mutS];exact List.mem_cons_of_mem _ (List.mem_cons_of_mem _ ha)),⟨rks2,sh2,rl2,kvs,wh2.br,Nat.le_add_right _ _⟩,wh2.pc,⟨[],(List.append_nil _).symm,fun a ha=>by cases ha⟩,hT,Found.again wh.bs.ok wh.vo vo0 wh.bs.hh wh.bs.hw hcalm hc0 (Yz0 hid0 hid) hL _⟩⟩
   | none =>
    refine iteF ⟨_,rfl,t0,_,_,_,rfl,rfl,SqT.of ht2,Qx7 (j:=0) rfl,_,rfl,t0,_,_,_,rfl,rfl,SqT.of ht2,Qx7 (j:=1) rfl,_,rfl,_,rfl,ad.S,CS,dxS2,_,_,rfl,hS2,TS.cl,TS.nR,Qo9 _ _ _ _ _,_,rfl,_,_,rfl,rfl,by show 2≤sizeLine;decide,fun lcr hlcr=>?_⟩
    have s3:Same H2 (upd H2 lcr (.lst [.int (r:Nat),.int (((h:Nat):Int)+((cc:Nat):Int))])):=Qq5 hlcr
    have hcr3:(upd H2 lcr (.lst [.int (r:Nat),.int (((h:Nat):Int)+((cc:Nat):Int))])) lcr=some (.lst (mV [r,h+cc])):=by
     rw[Qq1];rfl
    generalize upd H2 lcr (.lst [.int (r:Nat),.int (((h:Nat):Int)+((cc:Nat):Int))])=H3 at s3 hcr3 ⊢
    have wh3:=wh2.mono s3
    have x3:Way H H3 ad:=x2.trans (Way.of s3)
    obtain⟨dxS3,hS3⟩:=wh3.sh.ins
    obtain⟨dxc3,hc3⟩:=wh3.td.ins
    have hcrn:lcr∉ad.lp::ad.db::dicS ad:=fun z=>by
     rcases List.mem_cons.mp z with z|z
     ·rw[z,wh2.pc.at']at hlcr;cases hlcr
     rcases List.mem_cons.mp z with z|z
     ·rw[z,wh2.br.at']at hlcr;cases hlcr
     ·exact wh3.sh.nol hcr3 z
    have hun1:∀z:Int,z=0∨z=1→VOk h w' (setC u r cc (some z))∧unk (setC u r cc (some z))≤n:=fun z hz=>by
     have vo:=wh.vo.setC (j:=cc) (x:=some z) hrh (by rcases hz with e|e<;>rw[e]<;>simp)
     have:=Zg4 wh.vo vo (Qr8 wh.vo hrh hcw op) hrh hcw op (by rw[Qk8 wh.vo hrh hcw,if_pos ⟨rfl,rfl⟩];exact fun z=>nomatch z)
     exact⟨vo,by omega⟩
    have e2p:2^(n+1+1)=2^(n+1)+2^(n+1):=by rw[Nat.pow_succ 2 (n+1)];omega
    have hpos:0<2^(n+1):=Nat.two_pow_pos _
    have hcsl:∀i∈[r,h+cc],i<h+w':=fun i hi=>by
     simp only[List.mem_cons,List.not_mem_nil,or_false]at hi
     omega
    refine⟨_,rfl,ad.S,CS,dxS3,_,_,rfl,hS3,TS.cl,TS.nP,Qr9 _ _ _ _ _,ad.lp,_,rfl,.inl (SqL.of wh3.pc.at'),?_⟩
    refine⟨_,rfl,ad.S,dxS3,_,rfl,hS3,Zv7 _ _ _ _ _ (by decide +kernel) (by decide +kernel) (by decide +kernel) (by decide +kernel) (by decide +kernel),_,rfl,c,dxc3,_,rfl,hc3,Zq6 _ _ _ (by decide +kernel) (by decide +kernel) (by decide +kernel),_,rfl,_,rfl,c,lf,le,h,w',u,r,cc,1,rfl,wh3.td,wh.vo,.inr rfl,hrh,hcw,op,wh.bs.hh,wh.bs.hw,fun H4 c1 lf1 le1 s4 _ n1 n2 td4=>?_⟩
    have wh4:=wh3.twin s4 n1 n2 td4 (hun1 1 (.inr rfl)).1
    have x4:Way H H4 ad:=x3.trans (Way.of s4)
    refine⟨_,rfl,ad,h,w',b,rks2,c1,lf1,le1,lcr,setC u r cc (some 1),[r,h+cc],ps,kvs,rfl,wh4,(hun1 1 (.inr rfl)).2,by omega,by omega,s4 _ _ hcr3,by simp,hcsl,Zo0 wh.bs.ok wh.vo (.inr rfl) hrh hcw op hcalm,fun H5 v1 t1 ps1 e5=>?_⟩
    have y5:Way H3 H5 ad:=EndP.way (Way.of s4) e5 n1 n2
    have x5:Way H H5 ad:=x3.trans y5
    obtain⟨rks5,sh5,rl5,kvs5,br5,hl5⟩:=e5.sh
    obtain⟨dxS5,hS5⟩:=sh5.ins
    obtain⟨mo1,eps1,hmo1⟩:=e5.on
    refine⟨_,rfl,ad.S,CS,dxS5,_,_,rfl,hS5,TS.cl,TS.nP,Qr9 _ _ _ _ _,ad.lp,_,rfl,.inl (SqL.of e5.pc.at'),_,_,rfl,rfl,_,rfl,?_⟩
    refine ite2 (c:=decide ((1:Int)<(((ps1.map fun p=>V.ref p.l).length:Nat):Int))=true) (fun hb=>?_) (fun hb=>?_)
    ·have hb:=of_decide_eq_true hb
     rw[List.length_map]at hb
     refine⟨_,rfl,k H5 v1 t1 ps1 ⟨Qu0 x5.kept (fun a ha=>by simp only[mutS];exact List.mem_cons_of_mem _ (List.mem_cons_of_mem _ ha)),⟨rks5,sh5,rl2.trans rl5,kvs5,br5,by omega⟩,e5.pc,⟨mo1,eps1,fun a ha=>x4.free (hmo1 a ha)⟩,e5.tr,e5.fd.half wh.vo hrh hcw op (by rw[List.length_map];omega)⟩⟩
    ·have hb:ps1.length≤1:=by
      have:=of_decide_eq_false (Bool.eq_false_iff.mpr hb)
      rw[List.length_map]at this
      omega
     obtain⟨rks5',kvs5',wh5,rl5',hl5'⟩:=wh3.next y5 e5 (Way.of s4) hb
     obtain⟨dxS5',hS5'⟩:=wh5.sh.ins
     obtain⟨dxc5,hc5⟩:=wh5.td.ins
     have hcr5:=y5.kept _ _ hcr3 hcrn
     refine⟨_,rfl,ad.S,dxS5',_,rfl,hS5',Zv7 _ _ _ _ _ (by decide +kernel) (by decide +kernel) (by decide +kernel) (by decide +kernel) (by decide +kernel),_,rfl,c,dxc5,_,rfl,hc5,Zq6 _ _ _ (by decide +kernel) (by decide +kernel) (by decide +kernel),_,rfl,_,rfl,c,lf,le,h,w',u,r,cc,0,rfl,wh5.td,wh.vo,.inl rfl,hrh,hcw,op,wh.bs.hh,wh.bs.hw,fun H6 c2 lf2 le2 s6 _ n3 n4 td6=>?_⟩
     have wh6:=wh5.twin s6 n3 n4 td6 (hun1 0 (.inl rfl)).1
     have x6:Way H H6 ad:=x5.trans (Way.of s6)
     refine⟨_,rfl,ad,h,w',b,rks5',c2,lf2,le2,lcr,setC u r cc (some 0),[r,h+cc],ps1,kvs5',rfl,wh6,(hun1 0 (.inl rfl)).2,by omega,by omega,s6 _ _ hcr5,by simp,hcsl,Zo0 wh.bs.ok wh.vo (.inl rfl) hrh hcw op hcalm,fun H7 v0 t0' ps2 e7=>?_⟩
     have y7:Way H5 H7 ad:=EndP.way (Way.of s6) e7 n3 n4
     have x7:Way H H7 ad:=x5.trans y7
     obtain⟨rks7,sh7,rl7,kvs7,br7,hl7⟩:=e7.sh
     obtain⟨mo2,eps2,hmo2⟩:=e7.on
     refine⟨_,rfl,_,rfl,_,rfl,_,rfl,by show 5≤sizeLine;decide,fun tt htt=>?_⟩
     have s8:Same H7 (upd H7 tt (.tup [.str "try",.int (r:Nat),.int (cc:Nat),v0,v1])):=Qq5 htt
     have htt8:(upd H7 tt (.tup [.str "try",.int (r:Nat),.int (cc:Nat),v0,v1])) tt=some (.tup [.str "try",.int (r:Nat),.int (cc:Nat),v0,v1]):=Qq1
     show Qu5 10 (V.ref tt) _ (upd H7 tt (.tup [.str "try",.int (r:Nat),.int (cc:Nat),v0,v1])) _
     generalize upd H7 tt (.tup [.str "try",.int (r:Nat),.int (cc:Nat),v0,v1])=H8 at s8 htt8 ⊢
     have x8:Way H H8 ad:=x7.trans (Way.of s8)
     have sh8:=sh7.mono s8
     have br8:BrP H8 h w' b rks7 ad.db kvs7:=br7.keep (s8 _ _ br7.at') (TupK.of s8) (RkLe.refl _)
     have pc8:=e7.pc.mono s8
     have tk58:TupK H5 H8:=((TupK.of s6).trans (wh6.tk e7.kept)).trans (TupK.of s8)
     have tk28:TupK H2 H8:=(((TupK.of s3).trans (TupK.of s4)).trans (wh4.tk e5.kept)).trans tk58
     have hT8:IsT H8 (.tri r cc t0' t1) (.ref tt):=Xq1 htt8 (e7.tr.mono (TupK.of s8)) (e5.tr.mono tk58)
     have hfd:Found h w' b u (.tri r cc t0' t1) (ps.map (·.v)) (ps2.map (·.v)):=Found.both wh.vo hrh hcw op e5.fd e7.fd
     have hon:∃mo,ps2=ps++mo∧∀a∈mo.flatMap pcAd,H a=none:=⟨mo1++mo2,by rw[eps2,eps1,List.append_assoc],fun a ha=>by
      rw[List.flatMap_append]at ha
      rcases List.mem_append.mp ha with z|z
      ·exact x4.free (hmo1 a z)
      ·exact x6.free (hmo2 a z)⟩
     have hsub:∀a∈ad.lp::ad.db::dicS ad,a∈mutS ad lf le:=fun a ha=>by simp only[mutS];exact List.mem_cons_of_mem _ (List.mem_cons_of_mem _ ha)
     have rlx:RkLe rks rks7:=rl2.trans (rl5'.trans rl7)
     obtain⟨dxS8,hS8⟩:=sh8.ins
     refine⟨_,rfl,ad.S,CS,dxS8,_,_,rfl,hS8,TS.cl,TS.nP,Qr9 _ _ _ _ _,ad.lp,_,rfl,.inl (SqL.of pc8.at'),_,rfl,rfl,_,rfl,?_⟩
     refine ite2 (c:=decide (V.int (((ps2.map fun p=>V.ref p.l).length:Nat):Int)=V.int (((ps.map fun p=>V.ref p.l).length:Nat):Int))=true) (fun hb2=>?_) (fun hb2=>?_)
     ·have hb2:=V.int.inj (of_decide_eq_true hb2)
      rw[List.length_map,List.length_map]at hb2
      have hL:Leaf h w' b (.tri r cc t0' t1) u []:=hfd.none_leaf (by rw[List.length_map,List.length_map];omega) (by rw[List.length_map];exact two)
      obtain⟨sh9,br9,pc9,tk9⟩:=Xl6 sh8 br8 pc8 wh.vo hcalm hT8 (hid.mono (rl5'.trans rl7)) hL
      have hkt8:H8 ti=some (.tup ((ids.map (Sum.inl:Int→Key)).map kV)):=tk28 _ _ hkt
      have hlp:=Zy0 kvs7 (ids.map (Sum.inl:Int→Key)) (.ref tt)
      refine⟨_,rfl,_,rfl,ad.S,CS,dxS8,_,_,rfl,hS8,TS.cl,TS.nB,Zu3 _ _ _ _ _,_,rfl,ad.db,_,rfl,DPut.t br8.at' (k:=ids.map Sum.inl) hkt8 (by omega),?_⟩
      exact⟨_,rfl,k _ _ (.tri r cc t0' t1) ps2 ⟨Qu0 (x8.up (by simp)).kept hsub,⟨rks7,sh9,rlx,_,br9,by omega⟩,pc9,hon,hT8.mono tk9,hfd⟩⟩
     ·exact⟨_,rfl,k _ _ (.tri r cc t0' t1) ps2 ⟨Qu0 x8.kept hsub,⟨rks7,sh8,rlx,_,br8,by omega⟩,pc8,hon,hT8,hfd⟩⟩
end
section
variable {P:Program}{w:World}{K:PySem.W.Frag}{mg:Str→Option Value}{base:Heap}{CS CL CT:Addr}
theorem Xj2 {fo ft:Addr}{fdo fdt:FuncData} (Fo:Fun K "open_tree" "Search.open_tree" Qv2 fo fdo) (Ft:Fun K "tree" "Search.tree" Qf2 ft fdt) (B:Bt mg) (TS:ST K CS) (T:TT K CT) (m_first_open:Method P w K mg base CX0 CT "first_open" 1 ["self","columns"] (Qo7 CT)) (m_picture:Method P w K mg base CX0 CT "picture" 2 ["self","columns"] (Zk0 CT))
  (m_rests_of:Method P w K mg base CX0 CS "rests_of" 3 ["self","told"] (Zu5 P w CS CL CT)) (m_twin_with:Method P w K mg base CX0 CT "twin_with" 3 ["self","row","column","value"] (Zg9 CT)) (m_narrow:Method P w K mg base CX0 CS "narrow" 3 ["self","told","changed","forced"] (Zu4 P w CS CL CT)) (c_with_forced:Callee P w K mg base CX0 "with_forced" 1 ["forced","inner"] Xv2)
  (mko:∀k sp,FnOk P w K mg base CX0 k fo fdo ["self","told"] sp→Method P w K mg base CX0 CS "open_tree" k ["self","told"] sp) (mkt:∀k sp,FnOk P w K mg base CX0 k ft fdt ["self","told","changed"] sp→Method P w K mg base CX0 CS "tree" k ["self","told","changed"] sp) :
  ∀n,FnOk P w K mg base CX0 (2*n+5) ft fdt ["self","told","changed"] (Qe0 P w CS CL CT n)
 | 0=>Zh3 0 4 (by omega) Ft TS m_narrow (mko _ _ (Yz1 Fo TS T m_first_open m_picture)) c_with_forced
 | n+1=>Zh3 (n+1) (2*n+6) (by omega) Ft TS m_narrow (mko _ _ (Yz2 n (2*n+5) (by omega) Fo B TS T m_first_open m_picture m_rests_of m_twin_with (mkt _ _ (Xj2 Fo Ft B TS T m_first_open m_picture m_rests_of m_twin_with m_narrow c_with_forced mko mkt n)))) c_with_forced
end
section
variable {P:Program}{w:World}{K:PySem.W.Frag}{mg:Str→Option Value}{base:Heap}{CS CL CT:Addr}
theorem Yz3 {H:Hp}{b:Brd}{tb:Addr} (hb:IsD H (Qv8 b) (.ref tb)):∃r cc vr vc,H tb=some (.tup [.ref r,.ref cc])∧H r=some (.tup vr)∧H cc=some (.tup vc)∧vr.length=b.1.length∧vc.length=b.2.length ∧
  (∀(i:Nat) v,vr[i]?=some v→∃t xs,v=.ref t∧b.1[i]?=some xs∧H t=some (.tup (xs.map V.int)))∧∀(i:Nat) v,vc[i]?=some v→∃t xs,v=.ref t∧b.2[i]?=some xs∧H t=some (.tup (xs.map V.int)):=by
 obtain⟨r,cc,ha,h1,h2⟩:=board_inv hb
 obtain⟨vr,hr,hrs⟩:=Rp.tups_inv h1
 obtain⟨vc,hc,hcs⟩:=Rp.tups_inv h2
 refine⟨r,cc,vr,vc,ha,hr,hc,Qb0 hrs,Qb0 hcs,fun i v e=>?_,fun i v e=>?_⟩
 ·obtain⟨xs,hxs,hd⟩:=Qu4 hrs e
  obtain⟨t,rfl,ht⟩:=tup_inv hd
  exact⟨t,xs,rfl,hxs,ht⟩
 ·obtain⟨xs,hxs,hd⟩:=Qu4 hcs e
  obtain⟨t,rfl,ht⟩:=tup_inv hd
  exact⟨t,xs,rfl,hxs,ht⟩
structure LsP (P:Program) (w:World) (CL:Addr) (H0 H:Hp) (h w':Nat) (b:Brd) (las lcs dks drs:List Addr) (n:Nat):Prop where
 l1:las.length=n
 l2:lcs.length=n
 l3:dks.length=n
 l4:drs.length=n
 line:∀i,i<n→∃a lc dk dr,las[i]?=some a∧lcs[i]?=some lc∧dks[i]?=some dk∧drs[i]?=some dr∧(∃dx sh,H a=some (.ins CL dx (Qf1 sh (lenL h w' (Qq2 h i)) lc dk dr)))∧LiP P w CL H a dk dr (Qq2 h i).1 (Qq2 h i).2 (Qw8 b (Qq2 h i).1 (Qq2 h i).2) (lenL h w' (Qq2 h i)) [] []
 ndk:dks.Nodup
 ndr:drs.Nodup
 new:∀a∈las++lcs++dks++drs,H0 a=none
theorem LsP.keep {H0 H H':Hp}{h w':Nat}{b:Brd}{las lcs dks drs:List Addr}{n:Nat}{M:List Addr} (p:LsP P w CL H0 H h w' b las lcs dks drs n) (k:Qz2 H H' M) (nm:∀m∈M,m∉las++lcs++dks++drs) (ht:∀m∈M,∀xs,H m≠some (.tup xs)):LsP P w CL H0 H' h w' b las lcs dks drs n:=by
 refine⟨p.l1,p.l2,p.l3,p.l4,fun i hi=>?_,p.ndk,p.ndr,p.new⟩
 obtain⟨a,lc,dk,dr,e1,e2,e3,e4,⟨dx,sh,hc⟩,li⟩:=p.line i hi
 have m1:=List.mem_of_getElem? e1
 have m2:=List.mem_of_getElem? e2
 have m3:=List.mem_of_getElem? e3
 have m4:=List.mem_of_getElem? e4
 have na:a∉M:=fun z=>nm _ z (by simp[m1])
 exact⟨a,lc,dk,dr,e1,e2,e3,e4,⟨dx,sh,k _ _ hc na⟩,li.keepA hc k na (fun z=>nm _ z (by simp[m2])) (fun z=>nm _ z (by simp[m3])) (fun z=>nm _ z (by simp[m4])) ht⟩
theorem LsP.mono {H0 H H':Hp}{h w':Nat}{b:Brd}{las lcs dks drs:List Addr}{n:Nat} (p:LsP P w CL H0 H h w' b las lcs dks drs n) (s:Same H H'):LsP P w CL H0 H' h w' b las lcs dks drs n:=p.keep (M:=[]) (Qg2 s) (by simp) (by simp)
theorem LsP.live {H0 H:Hp}{h w':Nat}{b:Brd}{las lcs dks drs:List Addr}{n:Nat} (p:LsP P w CL H0 H h w' b las lcs dks drs n):∀a∈las++lcs++dks++drs,∃o,H a=some o:=fun x hx=>by
 have hx:x∈las∨x∈lcs∨x∈dks∨x∈drs:=by
  simp only[List.mem_append]at hx
  rcases hx with ((z|z)|z)|z
  ·exact .inl z
  ·exact .inr (.inl z)
  ·exact .inr (.inr (.inl z))
  ·exact .inr (.inr (.inr z))
 rcases hx with z|z|z|z
 all_goals
  obtain⟨i,hi,e⟩:=List.getElem_of_mem z
  first
  | rw[p.l1]at hi
  | rw[p.l2]at hi
  | rw[p.l3]at hi
  | rw[p.l4]at hi
  obtain⟨a,lc,dk,dr,e1,e2,e3,e4,⟨dx,sh,hc⟩,li⟩:=p.line i hi
 ·rw[List.getElem?_eq_getElem (by rw[p.l1];exact hi),e]at e1
  cases e1
  exact⟨_,hc⟩
 ·rw[List.getElem?_eq_getElem (by rw[p.l2];exact hi),e]at e2
  cases e2
  obtain⟨_,_,lc2,h1,_,h3⟩:=li.ln.ex
  have elc:lc2=x:=by
   rw[hc]at h1
   have e:=(HO.ins.inj (Option.some.inj h1)).2.2
   have:=congrArg (fun fs=>List.lookup ("choices" : Str) fs) e
   simp only[Qn4]at this
   exact(V.ref.inj (Option.some.inj this)).symm
  rw[elc]at h3
  exact⟨_,h3⟩
 ·rw[List.getElem?_eq_getElem (by rw[p.l3];exact hi),e]at e3
  cases e3
  exact⟨_,li.kn.at'⟩
 ·rw[List.getElem?_eq_getElem (by rw[p.l4];exact hi),e]at e4
  cases e4
  exact⟨_,li.rp.at'⟩
theorem Zp3 {xs:List Addr}{n i:Nat}{a x:Addr} (hl:xs.length=n) (e:xs[i]?=some a):(xs++[x])[i]?=some a:=by
 rw[List.getElem?_append_left (List.getElem?_eq_some_iff.mp e).1];exact e
theorem Zw8 {xs:List Addr}{n:Nat}{x:Addr} (hl:xs.length=n):(xs++[x])[n]?=some x:=by
 rw[List.getElem?_append_right (by omega),hl,Nat.sub_self];rfl
theorem LsP.snoc {H0 H H':Hp}{h w':Nat}{b:Brd}{las lcs dks drs:List Addr}{n:Nat} (p:LsP P w CL H0 H h w' b las lcs dks drs n) (s:Same H H') (s0:∀a,H a=none→H0 a=none) {a lc dk dr dx sh:Addr} (na:H a=none) (nc:H lc=none) (nk:H dk=none) (nr:H dr=none)
  (hc:H' a=some (.ins CL dx (Qf1 sh (lenL h w' (Qq2 h n)) lc dk dr))) (li:LiP P w CL H' a dk dr (Qq2 h n).1 (Qq2 h n).2 (Qw8 b (Qq2 h n).1 (Qq2 h n).2) (lenL h w' (Qq2 h n)) [] []):LsP P w CL H0 H' h w' b (las++[a]) (lcs++[lc]) (dks++[dk]) (drs++[dr]) (n+1):=by
 have p':=p.mono s
 have nin:∀{x:Addr},H x=none→x∉las++lcs++dks++drs:=fun hx z=>by
  obtain⟨o,e⟩:=p.live _ z
  rw[hx]at e;cases e
 refine⟨by rw[List.length_append,p.l1];rfl,by rw[List.length_append,p.l2];rfl,by rw[List.length_append,p.l3];rfl,by rw[List.length_append,p.l4];rfl,fun i hi=>?_,?_,?_,fun x hx=>?_⟩
 ·by_cases e:i=n
  ·subst e
   exact⟨a,lc,dk,dr,Zw8 p.l1,Zw8 p.l2,Zw8 p.l3,Zw8 p.l4,⟨dx,sh,hc⟩,li⟩
  ·obtain⟨a',lc',dk',dr',e1,e2,e3,e4,hc',li'⟩:=p'.line i (by omega)
   exact⟨a',lc',dk',dr',Zp3 p.l1 e1,Zp3 p.l2 e2,Zp3 p.l3 e3,Zp3 p.l4 e4,hc',li'⟩
 ·refine List.nodup_append.mpr ⟨p.ndk,by simp,fun x hx y hy e=>?_⟩
  rw[List.mem_singleton.mp hy]at e
  exact nin nk (by rw[←e];simp[hx])
 ·refine List.nodup_append.mpr ⟨p.ndr,by simp,fun x hx y hy e=>?_⟩
  rw[List.mem_singleton.mp hy]at e
  exact nin nr (by rw[←e];simp[hx])
 ·simp only[List.mem_append,List.mem_singleton]at hx
  have old:=fun z=>p.new x z
  simp only[List.mem_append]at old
  rcases hx with (((z|z)|(z|z))|(z|z))|(z|z)
  ·exact old (.inl (.inl (.inl z)))
  ·rw[z];exact s0 _ na
  ·exact old (.inl (.inl (.inr z)))
  ·rw[z];exact s0 _ nc
  ·exact old (.inl (.inr z))
  ·rw[z];exact s0 _ nk
  ·exact old (.inr z)
  ·rw[z];exact s0 _ nr
theorem LsP.nil (H0 H:Hp) (h w':Nat) (b:Brd):LsP P w CL H0 H h w' b [] [] [] [] 0:=⟨rfl,rfl,rfl,rfl,fun i hi=>absurd hi (Nat.not_lt_zero _),List.nodup_nil,List.nodup_nil,fun a ha=>by simp at ha⟩
theorem Xj3 {H:Hp}{x dx t:Addr}{sd num:Nat}{rs:List Nat}{n:Nat}{Q:VK}{E:XK} (hx:H x=none) (hdx:H dx=none) (ht:H t=some (.tup (Qy0 rs))) (h2:rs.length≤2) (h5:∀k∈rs,k≤500) (hn:n≤4)
  (k:∀H' dk dr dx' sh lc,Same H H'→H dk=none→H dr=none→H lc=none→H' x=some (.ins CL dx' (Qf1 sh n lc dk dr))→LiP P w CL H' x dk dr sd num rs n [] []→Q .non H') :
  Zv6 P w CL [.ref x,.str (Qu6 sd),.int (num:Nat),.ref t,.int (n:Nat)] (upd (upd H dx (.own x)) x (.ins CL dx [])) Q E:=by
 have sm:Same H (upd (upd H dx (.own x)) x (.ins CL dx [])):=Qw6 (Qq5 hdx) hx
 exact⟨x,dx,t,sd,num,rs,n,rfl,Qq1,sm _ _ ht,h2,h5,hn,fun H' dk dr dx' sh lc h1 h2 h3 h4 h5 h6=>k H' dk dr dx' sh lc (fun y o e=>h1 y o (sm _ _ e) (fun z=>by rw[List.mem_singleton.mp z,hx]at e;cases e)) (sm.free h2) (sm.free h3) (sm.free h5) h4 h6⟩
end
section
variable {P:Program}{w:World}{K:PySem.W.Frag}{mg:Str→Option Value}{base:Heap}{CS CL CT:Addr}
def Zv9 (P:Program) (w:World) (CS CL:Addr):Sp:=fun vs H Q _=>∃(x dx tb:Addr) (b:Brd) (h w':Nat),vs=[.ref x,.ref tb]∧H x=some (.ins CS dx [])∧IsD H (Qv8 b) (.ref tb)∧BSm h w' b ∧
 ∀H' ad,ad.S=x→Qz2 H H' [x]→ShP P w CS CL H' ad h w' b (List.replicate (h+w') [])→H' ad.lp=some (.lst [])→H' ad.db=some (.dT [])→ad.lp∉fixS ad→(∀a∈ad.lp::ad.db::(dicS ad++(ad.ll::(ad.las++ad.lcs))),H a=none)→Q .non H'
theorem Zu8:FnScope ["self","board"] ["self","board"] (Qz0 Qh1):=⟨rfl,rfl,rfl,by decide +kernel,rfl,by decide +kernel,by decide +kernel⟩
theorem Zu9 {f:Addr}{fd:FuncData} (F:Fun K "__init__" "Search.__init__" Qh1 f fd) (B:Bt mg) (Z:Bz mg) (TS:ST K CS) (mk_Line:Maker P w K mg base CX0 "Line" CL 4 ["self","kind","number","runs","length"] (Zv6 P w CL)):FnOk P w K mg base CX0 6 f fd ["self","board"] (Zv9 P w CS CL):=by
 refine F.ok Zu8 (fun vs H Q E h=>?_) (fun cdv A outer s H vs Q E hr h=>?_)
 ·obtain⟨x,dx,tb,b,h,w',rfl,_⟩:=h
  rfl
 ·obtain⟨x,dx,tb,b,h,w',rfl,hx,hbd,bs,k⟩:=h
  refine⟨_,(Qq4 (Ql9 (pv 0) (Qx0 (Qx5 K) rfl B.len Qj3 (Qq0 (Qx1 (Qx6 K) (pv 1) Qq6 (fun _ _=>rfl)) Qq3)) rfl)
   (Qq4 (Ql9 (pv 0) (Qx0 (Qx5 K) rfl B.len Qj3 (Qq0 (Qx1 (Qx6 K) (pv 1) Qq6 (fun _ _=>rfl)) Qq3)) rfl)
   (Qq4 (Ql9 (pv 0) (Qp5 ["number","runs"] [0] ⟨rfl,rfl,rfl,rfl,rfl⟩ rfl (Xz6 K rfl Z.enumerate (Qq0 (Qx1 (Qx6 K) (pv 1) Qq6 (fun _ _=>rfl)) Qq3)) (fun _ _ _ _ _=>(Zg2 K 2 rfl (Qh9 (Qx3 (i:=0) (show (["number","runs","self"]:List Str).Nodup by decide +kernel) rfl (Or.inl rfl)) (Qh9 (Qx3 (i:=1) (show (["number","runs","self"]:List Str).Nodup by decide +kernel) rfl (Or.inl rfl)) Zy5)))) (fun _ _ _ _ _=>Qw5 (Zm0 mk_Line hr (Qq0 Qy7 (Qq0 (pv 0) (Qq0 (pv 1) (Qq0 (Xf5 K (pv 2) rfl) Qq3))))))) rfl)
   (Qq4 (Qh8 (Qs7 PySem.F.plainAttrs_list PySem.F.slot_list_extend PySem.F.type_list_extend Zf4 (Qx4 (pv 0) rfl) (Qq0 (Qp5 ["number","runs"] [0] ⟨rfl,rfl,rfl,rfl,rfl⟩ rfl (Xz6 K rfl Z.enumerate (Qq0 (Qx1 (Qx6 K) (pv 1) Qq6 (fun _ _=>rfl)) Qq3)) (fun _ _ _ _ _=>(Zg2 K 2 rfl (Qh9 (Qx3 (i:=0) (show (["number","runs","self"]:List Str).Nodup by decide +kernel) rfl (Or.inl rfl)) (Qh9 (Qx3 (i:=1) (show (["number","runs","self"]:List Str).Nodup by decide +kernel) rfl (Or.inl rfl)) Zy5)))) (fun _ _ _ _ _=>Qw5 (Zm0 mk_Line hr (Qq0 Qy7 (Qq0 (pv 0) (Qq0 (pv 1) (Qq0 (Xf5 K (pv 2) rfl) Qq3))))))) Qq3)))
   (Qq4 (Ql9 (pv 0) (Qv7 Qq3) rfl)
   (Qq8 (Ql9 (pv 0) Xy3 rfl))))))),?_⟩
  have hbig:8000≤sizeLine:=by decide
  obtain⟨r,cc,vr,vc,htb,hr0,hc0,lr,lcn,gr,gc⟩:=Yz3 hbd
  have hh:=bs.hh
  have hw:=bs.hw
  obtain rfl:h=vr.length:=by rw[lr];exact bs.ok.rows.symm
  obtain rfl:w'=vc.length:=by rw[lcn];exact bs.ok.cols.symm
  refine⟨_,rfl,tb,_,_,.ref r,rfl,rfl,SqT.of htb,Qx7 (j:=0) rfl,r,_,rfl,.inr (SqT.of hr0),_,rfl,x,CS,dx,_,rfl,hx,TS.cl,TS.nR,(by show 0<1000;decide),?_⟩
  have l1:=Qg3 "rows" (V.int (vr.length:Nat)) []
  have k1:Qz2 H (upd H x (.ins CS dx (putF "rows" (.int (vr.length:Nat)) []))) [x]:=Qa7
  have hx1:(upd H x (.ins CS dx (putF "rows" (.int (vr.length:Nat)) []))) x=some (.ins CS dx (putF "rows" (.int (vr.length:Nat)) [])):=Qq1
  have tk1:TupK H (upd H x (.ins CS dx (putF "rows" (.int (vr.length:Nat)) []))):=TupK.upd hx (fun xs z=>by cases z)
  generalize upd H x (.ins CS dx (putF "rows" (.int (vr.length:Nat)) []))=H1 at k1 hx1 tk1 ⊢
  have l0:([]:List (Str×V)).length=0:=rfl
  refine⟨_,rfl,tb,_,_,.ref cc,rfl,rfl,SqT.of (tk1 _ _ htb),Qx7 (j:=1) rfl,cc,_,rfl,.inr (SqT.of (tk1 _ _ hc0)),_,rfl,x,CS,dx,_,rfl,hx1,TS.cl,TS.nC,by omega,?_⟩
  have l2:=Qg3 "columns" (V.int (vc.length:Nat)) (putF "rows" (.int (vr.length:Nat)) [])
  have k2':Qz2 H1 (upd H1 x (.ins CS dx (putF "columns" (.int (vc.length:Nat)) (putF "rows" (.int (vr.length:Nat)) [])))) [x]:=Qa7
  have hx2:(upd H1 x (.ins CS dx (putF "columns" (.int (vc.length:Nat)) (putF "rows" (.int (vr.length:Nat)) [])))) x=some (.ins CS dx (putF "columns" (.int (vc.length:Nat)) (putF "rows" (.int (vr.length:Nat)) []))):=Qq1
  have tk2':TupK H1 (upd H1 x (.ins CS dx (putF "columns" (.int (vc.length:Nat)) (putF "rows" (.int (vr.length:Nat)) [])))):=TupK.upd hx1 (fun xs z=>by cases z)
  generalize upd H1 x (.ins CS dx (putF "columns" (.int (vc.length:Nat)) (putF "rows" (.int (vr.length:Nat)) [])))=H2 at k2' hx2 tk2' ⊢
  have k2:=Qw4 k1 k2'
  have tk2:=tk1.trans tk2'
  have free2:∀a,H2 a=none→H a=none:=fun a ha=>by
   by_cases e:a=x
   ·rw[e,hx2]at ha;cases ha
   ·cases q:H a with
    | none=>rfl
    | some o=>rw[k2 a o q (by simpa using e)]at ha;cases ha
  have hcol:(putF "columns" (V.int (vc.length:Nat)) (putF "rows" (.int (vr.length:Nat)) [])).lookup ("columns" : Str)=some (.int (vc.length:Nat)):=by rw[Qq9,if_pos rfl]
  refine⟨_,rfl,tb,_,_,.ref r,rfl,rfl,SqT.of (tk2 _ _ htb),Qx7 (j:=0) rfl,r,rfl,⟨_,SqT.of (tk2 _ _ hr0)⟩,
   Zt5 (K:=K) (a:=r) (xs:=vr) (fun i vs H'=>∃(las lcs dks drs:List Addr),vs=las.map V.ref∧Same H2 H'∧LsP P w CL H2 H' vr.length vc.length b las lcs dks drs i) ⟨[],[],[],[],rfl,Same.refl _,LsP.nil _ _ _ _ _⟩ (by omega) ?_ ?_ ?_ ?_⟩
  ·rintro i vs H' ⟨las,lcs,dks,drs,rfl,s',ls⟩
   rw[List.length_map,ls.l1];exact Nat.le_refl _
  ·rintro i vs H' _ ⟨las,lcs,dks,drs,rfl,s',ls⟩
   exact SqT.of (s' _ _ (tk2 _ _ hr0))
  ·rintro i y vs H' p hy ⟨las,lcs,dks,drs,rfl,s',ls⟩ hp
   obtain⟨ty,xs,rfl,hxs,hty⟩:=gr i y hy
   have hi:i<vr.length:=(List.getElem?_eq_some_iff.mp hy).1
   have hl:LOk vr.length vc.length (Qq2 vr.length i):=Qm1 (by omega)
   have el:=Qb7 hi
   have xok:=bs.ok.r1 xs (List.mem_of_getElem? hxs)
   have ert:Qw8 b (Qq2 vr.length i).1 (Qq2 vr.length i).2=natR xs:=by
    rw[el];unfold Qw8;rw[if_pos rfl,Qz4 hxs]
   have htr:H' ty=some (.tup (Qy0 (natR xs))):=by rw[←Zm8 xok.1];exact s' _ _ (tk2 _ _ hty)
   have s1:Same H' (upd H' p (.tup [.int (i:Nat),.ref ty])):=Qq5 hp
   have hp1:(upd H' p (.tup [.int (i:Nat),.ref ty])) p=some (.tup [.int (i:Nat),.ref ty]):=Qq1
   show gTup K 2 _ (V.ref p) _ (upd H' p (.tup [.int (i:Nat),.ref ty])) _
   generalize upd H' p (.tup [.int (i:Nat),.ref ty])=H3 at s1 hp1 ⊢
   refine⟨p,_,rfl,SqT.of hp1,rfl,_,_,rfl,_,_,rfl,rfl,rfl,_,rfl,_,rfl,_,rfl,x,CS,dx,_,_,rfl,s1 _ _ (s' _ _ hx2),TS.cl,TS.nC,hcol,fun a dxa ha hdxa _=>?_⟩
   have e5:lenL vr.length vc.length (Qq2 vr.length i)=vc.length:=by rw[el];rfl
   have e6:(Qq2 vr.length i).1=0∧(Qq2 vr.length i).2=i:=by rw[el];exact⟨rfl,rfl⟩
   refine Xj3 (sd:=0) (num:=i) (rs:=natR xs) (n:=vc.length) ha hdxa (s1 _ _ htr) (by have:=bs.run _ hl;rw[ert]at this;exact this) (fun z hz=>(Zg6 xok.1 z hz).2) hw fun H4 dk dr dx' sh lc s4 nk nr nc hc4 li4=>⟨rfl,?_⟩
   refine⟨las++[a],lcs++[lc],dks++[dk],drs++[dr],by rw[List.map_append];rfl,s'.trans (s1.trans s4),ls.snoc (s1.trans s4) (fun q hq=>s'.free hq) (s1.free ha) (s1.free nc) (s1.free nk) (s1.free nr) (by rw[e5];exact hc4) (by rw[e5,ert,e6.1,e6.2];exact li4)⟩
  ·rintro vs H3 ⟨las,lcs,dks,drs,rfl,s3,ls3⟩ ll hll
   have s4:Same H3 (upd H3 ll (.lst (las.map V.ref))):=Qq5 hll
   have hll4:(upd H3 ll (.lst (las.map V.ref))) ll=some (.lst (las.map V.ref)):=Qq1
   generalize upd H3 ll (.lst (las.map V.ref))=H4 at s4 hll4 ⊢
   have hx4:=s4 _ _ (s3 _ _ hx2)
   have nlx:ll≠x:=fun e=>by rw[e,hx4]at hll4;cases hll4
   refine⟨_,rfl,x,CS,dx,_,rfl,hx4,TS.cl,TS.nL,by omega,?_⟩
   have l3:=Qg3 "lines" (V.ref ll) (putF "columns" (.int (vc.length:Nat)) (putF "rows" (.int (vr.length:Nat)) []))
   have k5:Qz2 H4 (upd H4 x (.ins CS dx (putF "lines" (.ref ll) (putF "columns" (.int (vc.length:Nat)) (putF "rows" (.int (vr.length:Nat)) []))))) [x]:=Qa7
   have hx5:(upd H4 x (.ins CS dx (putF "lines" (.ref ll) (putF "columns" (.int (vc.length:Nat)) (putF "rows" (.int (vr.length:Nat)) []))))) x=some (.ins CS dx (putF "lines" (.ref ll) (putF "columns" (.int (vc.length:Nat)) (putF "rows" (.int (vr.length:Nat)) [])))):=Qq1
   have tk5':TupK H4 (upd H4 x (.ins CS dx (putF "lines" (.ref ll) (putF "columns" (.int (vc.length:Nat)) (putF "rows" (.int (vr.length:Nat)) []))))):=TupK.upd hx4 (fun xs z=>by cases z)
   generalize upd H4 x (.ins CS dx (putF "lines" (.ref ll) (putF "columns" (.int (vc.length:Nat)) (putF "rows" (.int (vr.length:Nat)) []))))=H5 at k5 hx5 tk5' ⊢
   have nx3:x∉las++lcs++dks++drs:=fun z=>by have:=ls3.new x z;rw[hx2]at this;cases this
   have ls5:LsP P w CL H2 H5 vr.length vc.length b las lcs dks drs vr.length:=(ls3.mono s4).keep k5 (fun m hm=>by rw[List.mem_singleton.mp hm];exact nx3) (fun m hm xs e=>by rw[List.mem_singleton.mp hm,hx4]at e;cases e)
   have hll5:H5 ll=some (.lst (las.map V.ref)):=k5 _ _ hll4 (by simpa using nlx)
   have tk5:TupK H H5:=tk2.trans ((TupK.of (s3.trans s4)).trans tk5')
   have k25:Qz2 H2 H5 [x]:=Qw4 (Qg2 (s3.trans s4)) k5
   have free5:∀a,H5 a=none→H2 a=none:=fun a ha=>by
    by_cases e:a=x
    ·rw[e,hx5]at ha;cases ha
    ·cases q:H2 a with
     | none=>rfl
     | some o=>rw[k25 a o q (by simpa using e)]at ha;cases ha
   have hrow:(putF "lines" (V.ref ll) (putF "columns" (.int (vc.length:Nat)) (putF "rows" (.int (vr.length:Nat)) []))).lookup ("rows" : Str)=some (.int (vr.length:Nat)):=by rw[Qq9,if_neg (by decide +kernel),Qq9,if_neg (by decide +kernel),Qq9,if_pos rfl]
   have hlin:(putF "lines" (V.ref ll) (putF "columns" (.int (vc.length:Nat)) (putF "rows" (.int (vr.length:Nat)) []))).lookup ("lines" : Str)=some (.ref ll):=by rw[Qq9,if_pos rfl]
   have nll:ll∉las++lcs++dks++drs:=fun z=>by
    obtain⟨o,e⟩:=ls3.live ll z
    rw[hll]at e;cases e
   refine⟨_,rfl,x,CS,dx,_,_,rfl,hx5,TS.cl,TS.nL,hlin,.inl ⟨rfl,_,SqL.of hll5⟩,_,rfl,tb,_,_,.ref cc,rfl,rfl,SqT.of (tk5 _ _ htb),Qx7 (j:=1) rfl,cc,rfl,⟨_,SqT.of (tk5 _ _ hc0)⟩,
    Zt5 (K:=K) (a:=cc) (xs:=vc) (fun i vs H'=>∃(las2 lcs2 dks2 drs2:List Addr),vs=las2.map V.ref∧Same H5 H'∧las2.length=i∧(∀a∈lcs2,H5 a=none)∧(∀a∈las2,H5 a=none)∧(∀a∈dks2,H5 a=none)∧(∀a∈drs2,H5 a=none)∧LsP P w CL H2 H' vr.length vc.length b (las++las2) (lcs++lcs2) (dks++dks2) (drs++drs2) (vr.length+i)) ⟨[],[],[],[],rfl,Same.refl _,rfl,by simp,by simp,by simp,by simp,by simpa using ls5⟩ (by omega) ?_ ?_ ?_ ?_⟩
   ·rintro i vs H' ⟨las2,lcs2,dks2,drs2,rfl,s',e2,_⟩
    rw[List.length_map,e2];exact Nat.le_refl _
   ·rintro i vs H' _ ⟨las2,lcs2,dks2,drs2,rfl,s',_⟩
    exact SqT.of (s' _ _ (tk5 _ _ hc0))
   ·rintro i y vs H' p hy ⟨las2,lcs2,dks2,drs2,rfl,s',e2,f1,f2,f3,f4,ls⟩ hp
    obtain⟨ty,xs,rfl,hxs,hty⟩:=gc i y hy
    have hi:i<vc.length:=(List.getElem?_eq_some_iff.mp hy).1
    have hl:LOk vr.length vc.length (Qq2 vr.length (vr.length+i)):=Qm1 (by omega)
    have el:=Qa6 vr.length i
    have xok:=bs.ok.r2 xs (List.mem_of_getElem? hxs)
    have ert:Qw8 b (Qq2 vr.length (vr.length+i)).1 (Qq2 vr.length (vr.length+i)).2=natR xs:=by
     rw[el];unfold Qw8;rw[if_neg (show ¬(1:Nat)=0 by decide),Qz4 hxs]
    have htr:H' ty=some (.tup (Qy0 (natR xs))):=by rw[←Zm8 xok.1];exact s' _ _ (tk5 _ _ hty)
    have s1:Same H' (upd H' p (.tup [.int (i:Nat),.ref ty])):=Qq5 hp
    have hp1:(upd H' p (.tup [.int (i:Nat),.ref ty])) p=some (.tup [.int (i:Nat),.ref ty]):=Qq1
    show gTup K 2 _ (V.ref p) _ (upd H' p (.tup [.int (i:Nat),.ref ty])) _
    generalize upd H' p (.tup [.int (i:Nat),.ref ty])=H6 at s1 hp1 ⊢
    refine⟨p,_,rfl,SqT.of hp1,rfl,_,_,rfl,_,_,rfl,rfl,rfl,_,rfl,_,rfl,_,rfl,x,CS,dx,_,_,rfl,s1 _ _ (s' _ _ hx5),TS.cl,TS.nR,hrow,fun a dxa ha hdxa _=>?_⟩
    have e5:lenL vr.length vc.length (Qq2 vr.length (vr.length+i))=vr.length:=by rw[el];rfl
    have e6:(Qq2 vr.length (vr.length+i)).1=1∧(Qq2 vr.length (vr.length+i)).2=i:=by rw[el];exact⟨rfl,rfl⟩
    refine Xj3 (sd:=1) (num:=i) (rs:=natR xs) (n:=vr.length) ha hdxa (s1 _ _ htr) (by have:=bs.run _ hl;rw[ert]at this;exact this) (fun z hz=>(Zg6 xok.1 z hz).2) hh fun H7 dk dr dx' sh lc s7 nk nr nc hc7 li7=>⟨rfl,?_⟩
    have ad1:∀{ys:List Addr}{q:Addr},(∀a∈ys,H5 a=none)→H6 q=none→∀a∈ys++[q],H5 a=none:=fun g1 g2 a ha=>by
     rcases List.mem_append.mp ha with z|z
     ·exact g1 a z
     ·rw[List.mem_singleton.mp z];exact s'.free (s1.free g2)
    refine⟨las2++[a],lcs2++[lc],dks2++[dk],drs2++[dr],by rw[List.map_append];rfl,s'.trans (s1.trans s7),by rw[List.length_append,e2];rfl,ad1 f1 nc,ad1 f2 ha,ad1 f3 nk,ad1 f4 nr,?_⟩
    have:=ls.snoc (s1.trans s7) (fun q hq=>free5 _ (s'.free hq)) (s1.free ha) (s1.free nc) (s1.free nk) (s1.free nr) (by rw[e5];exact hc7) (by rw[e5,ert,e6.1,e6.2];exact li7)
    rw[←List.append_assoc,←List.append_assoc,←List.append_assoc,←List.append_assoc]
    exact this
   ·rintro vs H6 ⟨las2,lcs2,dks2,drs2,rfl,s6,e2,f1,f2,f3,f4,ls6⟩ l2 hl2
    have s7:Same H6 (upd H6 l2 (.lst (las2.map V.ref))):=Qq5 hl2
    have hl27:(upd H6 l2 (.lst (las2.map V.ref))) l2=some (.lst (las2.map V.ref)):=Qq1
    generalize upd H6 l2 (.lst (las2.map V.ref))=H7 at s7 hl27 ⊢
    have hll7:=s7 _ _ (s6 _ _ hll5)
    have hx7:=s7 _ _ (s6 _ _ hx5)
    have ls7:=ls6.mono s7
    have la1:=ls3.l1
    refine⟨ll,l2,_,_,rfl,rfl,hll7,hl27,by rw[List.length_map,List.length_map];omega,?_⟩
    have k8:Qz2 H7 (upd H7 ll (.lst (las.map V.ref++las2.map V.ref))) [ll]:=Qa7
    have hll8:(upd H7 ll (.lst (las.map V.ref++las2.map V.ref))) ll=some (.lst (las.map V.ref++las2.map V.ref)):=Qq1
    generalize upd H7 ll (.lst (las.map V.ref++las2.map V.ref))=H8 at k8 hll8 ⊢
    have nll2:ll∉(las++las2)++(lcs++lcs2)++(dks++dks2)++(drs++drs2):=fun z=>by
     have nn:∀{ys:List Addr},(∀a∈ys,H5 a=none)→ll∉ys:=fun g z=>by
      have:=g ll z
      rw[hll5]at this;cases this
     simp only[List.mem_append,not_or]at nll z
     rcases z with (((z|z)|(z|z))|(z|z))|(z|z)
     ·exact nll.1.1.1 z
     ·exact nn f2 z
     ·exact nll.1.1.2 z
     ·exact nn f1 z
     ·exact nll.1.2 z
     ·exact nn f3 z
     ·exact nll.2 z
     ·exact nn f4 z
    have ls8:LsP P w CL H2 H8 vr.length vc.length b (las++las2) (lcs++lcs2) (dks++dks2) (drs++drs2) (vr.length+vc.length):=ls7.keep k8 (fun m hm=>by rw[List.mem_singleton.mp hm];exact nll2) (fun m hm xs e=>by rw[List.mem_singleton.mp hm,hll7]at e;cases e)
    have hx8:=k8 _ _ hx7 (by simpa using Ne.symm nlx)
    have k08:Qz2 H H8 [x]:=fun a o ha hm=>by
     have h2:=k2 a o ha hm
     have nal:a≠ll:=fun e=>by rw[e]at h2;rw[s3 _ _ h2]at hll;cases hll
     exact k8 _ _ (s7 _ _ (s6 _ _ (k25 _ _ h2 hm))) (by simpa using nal)
    have nf:∀{Hm:Hp}{a:Addr}{o:HO},Qz2 H Hm [x]→Hm x=some o→Hm a=none→H a=none:=fun km hxm ha=>by
     rename_i Hm a o
     by_cases e:a=x
     ·rw[e,hxm]at ha;cases ha
     ·cases q:H a with
      | none=>rfl
      | some o=>rw[km a o q (by simpa using e)]at ha;cases ha
    refine⟨Nat.zero_le _,fun lp hlp=>?_⟩
    have nlp:=nf k08 hx8 hlp
    have lpll:lp≠ll:=fun e=>by rw[e,hll8]at hlp;cases hlp
    have lpn:lp∉(las++las2)++(lcs++lcs2)++(dks++dks2)++(drs++drs2):=fun z=>by
     obtain⟨o,e⟩:=ls8.live _ z
     rw[hlp]at e;cases e
    have s9:Same H8 (upd H8 lp (.lst [])):=Qq5 hlp
    have hlp9:(upd H8 lp (.lst [])) lp=some (.lst []):=Qq1
    generalize upd H8 lp (.lst [])=H9 at s9 hlp9 ⊢
    have hx9:=s9 _ _ hx8
    have lpx:lp≠x:=fun e=>by rw[e,hx8]at hlp;cases hlp
    refine⟨_,rfl,x,CS,dx,_,rfl,hx9,TS.cl,TS.nP,by omega,?_⟩
    have l4:=Qg3 "pictures" (V.ref lp) (putF "lines" (.ref ll) (putF "columns" (.int (vc.length:Nat)) (putF "rows" (.int (vr.length:Nat)) [])))
    have k10:Qz2 H9 (upd H9 x (.ins CS dx (putF "pictures" (.ref lp) (putF "lines" (.ref ll) (putF "columns" (.int (vc.length:Nat)) (putF "rows" (.int (vr.length:Nat)) [])))))) [x]:=Qa7
    have hx10:(upd H9 x (.ins CS dx (putF "pictures" (.ref lp) (putF "lines" (.ref ll) (putF "columns" (.int (vc.length:Nat)) (putF "rows" (.int (vr.length:Nat)) [])))))) x=some (.ins CS dx (putF "pictures" (.ref lp) (putF "lines" (.ref ll) (putF "columns" (.int (vc.length:Nat)) (putF "rows" (.int (vr.length:Nat)) []))))):=Qq1
    generalize upd H9 x (.ins CS dx (putF "pictures" (.ref lp) (putF "lines" (.ref ll) (putF "columns" (.int (vc.length:Nat)) (putF "rows" (.int (vr.length:Nat)) [])))))=H10 at k10 hx10 ⊢
    have k010:Qz2 H H10 [x]:=Qw4 k08 (Qw4 (Qg2 s9) k10)
    have nx8:x∉(las++las2)++(lcs++lcs2)++(dks++dks2)++(drs++drs2):=fun z=>by have:=ls8.new x z;rw[hx2]at this;cases this
    have ls10:LsP P w CL H2 H10 vr.length vc.length b (las++las2) (lcs++lcs2) (dks++dks2) (drs++drs2) (vr.length+vc.length):=(ls8.mono s9).keep k10 (fun m hm=>by rw[List.mem_singleton.mp hm];exact nx8) (fun m hm xs e=>by rw[List.mem_singleton.mp hm,hx9]at e;cases e)
    refine fun db hdb=>?_
    have ndb:=nf k010 hx10 hdb
    have dbn:db∉(las++las2)++(lcs++lcs2)++(dks++dks2)++(drs++drs2):=fun z=>by
     obtain⟨o,e⟩:=ls10.live _ z
     rw[hdb]at e;cases e
    have s11:Same H10 (upd H10 db (.dT [])):=Qq5 hdb
    have hdb11:(upd H10 db (.dT [])) db=some (.dT []):=Qq1
    generalize upd H10 db (.dT [])=H11 at s11 hdb11 ⊢
    have hx11:=s11 _ _ hx10
    have dbx:db≠x:=fun e=>by rw[e,hx10]at hdb;cases hdb
    refine⟨_,rfl,x,CS,dx,_,rfl,hx11,TS.cl,TS.nB,by omega,?_⟩
    have k12:Qz2 H11 (upd H11 x (.ins CS dx (Qb8 vr.length vc.length ll lp db))) [x]:=Qa7
    have hx12:(upd H11 x (.ins CS dx (Qb8 vr.length vc.length ll lp db))) x=some (.ins CS dx (Qb8 vr.length vc.length ll lp db)):=Qq1
    have k1012:Qz2 H10 (upd H11 x (.ins CS dx (Qb8 vr.length vc.length ll lp db))) [x]:=Qw4 (Qg2 s11) k12
    have ls12:LsP P w CL H2 (upd H11 x (.ins CS dx (Qb8 vr.length vc.length ll lp db))) vr.length vc.length b (las++las2) (lcs++lcs2) (dks++dks2) (drs++drs2) (vr.length+vc.length):=ls10.keep k1012 (fun m hm=>by rw[List.mem_singleton.mp hm];exact nx8) (fun m hm xs e=>by rw[List.mem_singleton.mp hm,hx10]at e;cases e)
    show Q .non (upd H11 x (.ins CS dx (Qb8 vr.length vc.length ll lp db)))
    generalize upd H11 x (.ins CS dx (Qb8 vr.length vc.length ll lp db))=H12 at k12 hx12 k1012 ls12 ⊢
    have hll12:H12 ll=some (.lst ((las++las2).map V.ref)):=by rw[List.map_append];exact k1012 _ _ (k10 _ _ (s9 _ _ hll8) (by simpa using nlx)) (by simpa using nlx)
    simp only[List.mem_append,not_or]at lpn dbn
    refine k H12 ⟨x,ll,lp,db,las++las2,lcs++lcs2,dks++dks2,drs++drs2⟩ rfl (Qw4 k010 k1012) ⟨⟨dx,hx12⟩,hll12,ls12.l1,List.length_replicate,ls12.l3,ls12.l4,ls12.l2,fun i hi=>?_,ls12.ndk,ls12.ndr,⟨lpll,fun z=>?_⟩,fun z=>?_⟩ (k1012 _ _ (k10 _ _ hlp9 (by simpa using lpx)) (by simpa using lpx)) (k12 _ _ hdb11 (by simpa using dbx)) (fun z=>?_) (fun a ha=>?_)
    ·obtain⟨a,lc,dk,dr,e1,e2,e3,e4,hc,li⟩:=ls12.line i hi
     exact⟨a,lc,dk,dr,[],e1,e2,e3,e4,by rw[List.getElem?_replicate,if_pos hi],hc,[],li⟩
    ·rcases List.mem_append.mp z with z|z
     ·exact lpn.1.1.2.1 z
     ·exact lpn.1.1.2.2 z
    ·rcases List.mem_append.mp z with z|z
     ·exact dbn.1.2.1 z
     ·exact dbn.1.2.2 z
    ·unfold fixS at z
     simp only[List.mem_cons,List.mem_append]at z
     rcases z with z|z|(z|z)|(z|z)
     ·exact lpx z
     ·exact lpll z
     ·exact lpn.1.1.1.1 z
     ·exact lpn.1.1.1.2 z
     ·exact lpn.1.1.2.1 z
     ·exact lpn.1.1.2.2 z
    ·have nw:=ls12.new
     rcases List.mem_cons.mp ha with z|z
     ·rw[z];exact nlp
     rcases List.mem_cons.mp z with z|z
     ·rw[z];exact ndb
     unfold dicS at z
     rcases List.mem_append.mp z with z|z
     ·refine free2 _ (nw a ?_)
      rcases List.mem_append.mp z with z|z
      ·exact List.mem_append_left _ (List.mem_append_right _ z)
      ·exact List.mem_append_right _ z
     rcases List.mem_cons.mp z with z|z
     ·rw[z];exact free2 _ (s3.free hll)
     ·refine free2 _ (nw a ?_)
      rcases List.mem_append.mp z with z|z
      ·exact List.mem_append_left _ (List.mem_append_left _ (List.mem_append_left _ z))
      ·exact List.mem_append_left _ (List.mem_append_left _ (List.mem_append_right _ z))
end
section
variable {P:Program}{w:World}{K:PySem.W.Frag}{mg:Str→Option Value}{base:Heap}{CS CL CT:Addr}
def Qd9 (h w:Nat):View:=List.replicate h (List.replicate w none)
theorem Qi8 (h w:Nat):VOk h w (Qd9 h w):=by
 unfold Qd9
 refine⟨List.length_replicate,fun s hs=>?_,fun s hs=>?_⟩
 ·rw[(List.mem_replicate.mp hs).2,List.length_replicate]
 ·rw[(List.mem_replicate.mp hs).2]
  intro x hx
  exact .inl (List.mem_replicate.mp hx).2
theorem Xj4 {w:Nat}:∀(v:View),(∀s∈v,s.length=w)→unk v≤v.length*w
 | [],_=>Nat.zero_le _
 | s::v,h=>by
  have ih:=Xj4 v fun s hs=>h s (List.mem_cons_of_mem _ hs)
  have h1:=h s List.mem_cons_self
  have h2:s.countP (·.isNone)≤s.length:=List.countP_le_length
  rw[Zv0,List.length_cons,Nat.add_mul]
  omega
theorem Yj0 {h w':Nat}{v:View} (o:VOk h w' v) (hh:h≤4) (hw:w'≤4):unk v≤16:=by
 have:=Xj4 v o.wid
 rw[o.len]at this
 have h2:h*w'≤4*4:=Nat.mul_le_mul hh hw
 omega
theorem Zo1 (h w i j:Nat):Qz5 (Qd9 h w) i j=none:=by
 unfold Qz5 Qd9
 rw[List.getD_eq_getElem?_getD,List.getD_eq_getElem?_getD,List.getElem?_replicate]
 split
 ·rw[Option.getD_some,List.getElem?_replicate]
  split<;>rfl
 ·rfl
theorem Zc8 (h w':Nat) (x:Int):Qk3 h w' (Qd9 h w') x=List.replicate (h+w') 0:=by
 apply List.ext_getElem?
 intro i
 rw[List.getElem?_replicate]
 by_cases hi:i<h+w'
 ·rw[Qp2 hi,if_pos hi]
  congr 1
  apply Nat.eq_of_testBit_eq
  intro p
  rw[Zw7 (Qi8 h w') (Qm1 hi),Zo1,Nat.zero_testBit]
  exact decide_eq_false fun z=>nomatch z.2
 ·rw[if_neg hi]
  exact List.getElem?_eq_none (by rw[Qm2];omega)
def Zp4 (P:Program) (w:World) (CS CL:Addr):Sp:=fun vs H Q _=>∃(ad:SAd) (h w':Nat) (b:Brd),vs=[.ref ad.S]∧BSm h w' b∧ShP P w CS CL H ad h w' b (List.replicate (h+w') [])∧H ad.lp=some (.lst [])∧H ad.db=some (.dT [])∧ad.lp∉fixS ad ∧
 ∀H' val t ps,Qz2 H H' (ad.lp::ad.db::dicS ad)→(∃dx,H' ad.S=some (.ins CS dx (Qb8 h w' ad.ll ad.lp ad.db)))→PcP H' ad.lp ps→(∀a∈ps.flatMap pcAd,H a=none)→IsT H' t val→Found h w' b (Qd9 h w') t [] (ps.map (·.v))→Q val H'
theorem Qa8:FnScope ["self","blank"] ["self"] (Qz0 Qy4):=⟨rfl,rfl,rfl,by decide +kernel,rfl,by decide +kernel,by decide +kernel⟩
theorem Zp5 {f:Addr}{fd:FuncData} (F:Fun K "whole_tree" "Search.whole_tree" Qy4 f fd) (B:Bt mg) (TS:ST K CS) (mk_Told:Maker P w K mg base CX0 "Told" CT 1 ["self","rows","full","empty"] (Qi7 CT)) (m_tree:Method P w K mg base CX0 CS "tree" 37 ["self","told","changed"] (Qe0 P w CS CL CT 16)) :
  FnOk P w K mg base CX0 38 f fd ["self"] (Zp4 P w CS CL):=by
 refine F.ok Qa8 (fun vs H Q E h=>?_) (fun cdv A outer s H vs Q E hr h=>?_)
 ·obtain⟨ad,h,w',b,rfl,_⟩:=h
  rfl
 ·obtain⟨ad,h,w',b,rfl,bs,sh,hlp,hdb,nlp,k⟩:=h
  refine⟨_,(Qq4 (Qz6 (i:=1) Qa8.nd rfl (Or.inl rfl) (Qz7 Yh4 (Qv7 (Qq0 Qq6 Qq3)) (Qx0 (Qx5 K) rfl B.len Qj3 (Qq0 (Qx4 (pv 0) rfl) Qq3))))
   (Qq8 (Qz9 (Qp0 m_tree (pv 0) hr (Qq0 (Zm0 mk_Told hr (Qq0 (Qx4 (pv 0) rfl) (Qq0 (pv 1) (Qq0 (pv 1) Qq3)))) (Qq0 (Xd7 rfl (Qx0 (Qx5 K) rfl B.len Qj3 (Qq0 (Qx4 (pv 0) rfl) Qq3)) rfl B.list rfl B.range) Qq3)))))),?_⟩
  have hbig:100≤sizeLine:=by decide
  obtain⟨dxS,hS⟩:=sh.ins
  have hh:=bs.hh
  have hw:=bs.hw
  have elen:(ad.las.map V.ref).length=h+w':=by rw[List.length_map,sh.len]
  refine⟨by show 1≤sizeLine;omega,fun l1 hl1=>?_⟩
  have s1:Same H (upd H l1 (.lst [.int 0])):=Qq5 hl1
  have hl1':(upd H l1 (.lst [.int 0])) l1=some (.lst [.int 0]):=Qq1
  generalize upd H l1 (.lst [.int 0])=H1 at s1 hl1' ⊢
  refine⟨_,rfl,ad.S,CS,dxS,_,_,rfl,s1 _ _ hS,TS.cl,TS.nL,Zp2 _ _ _ _ _,ad.ll,_,rfl,.inl (SqL.of (s1 _ _ sh.lst)),l1,_,_,rfl,rfl,hl1',by omega,by omega,by rw[elen];show 1*_≤_;omega,fun l2 hl2=>?_⟩
  have e2:(List.replicate (((ad.las.map V.ref).length:Nat):Int).toNat [V.int 0]).flatten=mV (List.replicate (h+w') 0):=by
   rw[Int.toNat_natCast,elen,List.flatten_replicate_singleton]
   unfold mV
   rw[List.map_replicate]
   rfl
  rw[e2]
  have s2:Same H1 (upd H1 l2 (.lst (mV (List.replicate (h+w') 0)))):=Qq5 hl2
  have hl2':(upd H1 l2 (.lst (mV (List.replicate (h+w') 0)))) l2=some (.lst (mV (List.replicate (h+w') 0))):=Qq1
  show Qu5 1 (V.ref l2) _ (upd H1 l2 (.lst (mV (List.replicate (h+w') 0)))) _
  generalize upd H1 l2 (.lst (mV (List.replicate (h+w') 0)))=H2 at s2 hl2' ⊢
  have s02:=s1.trans s2
  have hS2:=s02 _ _ hS
  refine⟨_,rfl,ad.S,dxS,_,rfl,hS2,Zv7 _ _ _ _ _ (by decide +kernel) (by decide +kernel) (by decide +kernel) (by decide +kernel) (by decide +kernel),_,rfl,ad.S,CS,dxS,_,_,rfl,hS2,TS.cl,TS.nR,Qo9 _ _ _ _ _,_,rfl,_,rfl,fun c dxc hc hdxc _=>?_⟩
  have s3:Same H2 (upd (upd H2 dxc (.own c)) c (.ins CT dxc [])):=Qw6 (Qq5 hdxc) hc
  have hc3:(upd (upd H2 dxc (.own c)) c (.ins CT dxc [])) c=some (.ins CT dxc []):=Qq1
  show Qi7 CT [.ref c,.int (h:Nat),.ref l2,.ref l2] (upd (upd H2 dxc (.own c)) c (.ins CT dxc [])) _ E0
  generalize upd (upd H2 dxc (.own c)) c (.ins CT dxc [])=H3 at s3 hc3 ⊢
  refine⟨c,dxc,l2,l2,h,_,_,rfl,hc3,s3 _ _ hl2',s3 _ _ hl2',fun H4 lf le k4 nf ne nfe hc4 hf4 he4=>⟨rfl,?_⟩⟩
  have s4:Same H2 H4:=fun y o hy=>k4 y o (s3 _ _ hy) fun e=>by rw[e,hc]at hy;cases hy
  have s04:=s02.trans s4
  refine⟨_,rfl,ad.S,CS,dxS,_,_,rfl,s04 _ _ hS,TS.cl,TS.nL,Zp2 _ _ _ _ _,ad.ll,_,rfl,.inl (SqL.of (s04 _ _ sh.lst)),h+w',by rw[elen],by omega,fun lch hlch=>?_⟩
  have s5:Same H4 (upd H4 lch (.lst (mV (List.range (h+w'))))):=Qq5 hlch
  have hlch5:(upd H4 lch (.lst (mV (List.range (h+w'))))) lch=some (.lst (mV (List.range (h+w')))):=Qq1
  show Qe0 P w CS CL CT 16 [.ref ad.S,.ref c,.ref lch] (upd H4 lch (.lst (mV (List.range (h+w'))))) _ E0
  generalize upd H4 lch (.lst (mV (List.range (h+w'))))=H5 at s5 hlch5 ⊢
  have s05:=s04.trans s5
  have sh5:=sh.mono s05
  have nf0:H lf=none:=s02.free (s3.free nf)
  have ne0:H le=none:=s02.free (s3.free ne)
  have nfix:∀{a:Addr},H a=none→a∉fixS ad:=fun ha z=>by
   obtain⟨o,e,_⟩:=sh.fixlive z
   rw[ha]at e;cases e
  have wh:WhP P w CS CL CT H5 ad h w' b (List.replicate (h+w') []) c lf le (Qd9 h w') [] []:=⟨bs,sh5,⟨⟨dxc,s5 _ _ hc4⟩,by rw[Zc8];exact s5 _ _ hf4,by rw[Zc8];exact s5 _ _ he4,nfe⟩,Qi8 h w',⟨s05 _ _ hlp,fun p hp=>(by cases hp),List.nodup_nil,fun z=>by cases z⟩,⟨s05 _ _ hdb,fun ids v hv=>by cases hv⟩,by simp,⟨nfix nf0,nfix ne0,nlp⟩,⟨(fun e=>by rw[e,nf0]at hlp;cases hlp),(fun e=>by rw[e,ne0]at hlp;cases hlp)⟩,fun a ha=>by cases ha⟩
  refine⟨ad,h,w',b,_,c,lf,le,lch,Qd9 h w',List.range (h+w'),[],[],rfl,wh,Yj0 (Qi8 h w') hh hw,Nat.le_refl _,by decide,hlch5,by rw[List.length_range];omega,fun i hi=>List.mem_range.mp hi,fun i hi hn=>absurd (List.mem_range.mpr hi) hn,fun H6 val t ps e6=>?_⟩
  obtain⟨rks',sh6,_⟩:=e6.sh
  obtain⟨mo,eps,hmo⟩:=e6.on
  have eps':ps=mo:=by rw[eps];rfl
  refine k H6 val t ps (fun a o ha hn=>e6.kept a o (s05 _ _ ha) fun z=>?_) sh6.ins e6.pc (fun a ha=>s05.free (hmo a (by rw[←eps'];exact ha))) e6.tr e6.fd
  rcases List.mem_cons.mp z with z|z
  ·rw[z,nf0]at ha;cases ha
  rcases List.mem_cons.mp z with z|z
  ·rw[z,ne0]at ha;cases ha
  ·exact hn z
end
section
variable {P:Program}{w:World}{K:PySem.W.Frag}{mg:Str→Option Value}{base:Heap}{CS CL CT:Addr}
def ansV (val:V):List Pc→List V
 | []=>[.str "none",val]
 | [p]=>[.str "one",.ref p.l,val]
 | p::q::_=>[.str "several",.ref p.l,.ref q.l]
def Zd0:Sp:=fun vs H Q _=>∃(tb:Addr) (b:Brd) (h w':Nat),vs=[.ref tb]∧IsD H (Qv8 b) (.ref tb)∧BSm h w' b ∧
 ∀H' tt t val ps lp,Same H H'→PcP H' lp ps→(∀a∈lp::ps.flatMap pcAd,H a=none)→IsT H' t val→Found h w' b (Qd9 h w') t [] (ps.map (·.v))→H' tt=some (.tup (ansV val ps))→Q (.ref tt) H'
theorem Zd1:FnScope ["board","search","tree"] ["board"] (Qz0 Qo6):=⟨rfl,rfl,rfl,by decide +kernel,rfl,by decide +kernel,by decide +kernel⟩
theorem Xt0 {f:Addr}{fd:FuncData} (F:Fun K "judged" "judged" Qo6 f fd) (B:Bt mg) (TS:ST K CS) (mk_Search:Maker P w K mg base CX0 "Search" CS 6 ["self","board"] (Zv9 P w CS CL)) (m_whole_tree:Method P w K mg base CX0 CS "whole_tree" 38 ["self"] (Zp4 P w CS CL)):FnOk P w K mg base CX0 39 f fd ["board"] Zd0:=by
 refine F.ok Zd1 (fun vs H Q E h=>?_) (fun cdv A outer s H vs Q E hr h=>?_)
 ·obtain⟨tb,b,h,w',rfl,_⟩:=h
  rfl
 ·obtain⟨tb,b,h,w',rfl,hbd,bs,k⟩:=h
  refine⟨_,(Qq4 (Qz6 (i:=1) Zd1.nd rfl (Or.inl rfl) (Zm0 mk_Search hr (Qq0 (pv 0) Qq3)))
   (Qq4 (Qz6 (i:=2) Zd1.nd rfl (Or.inl rfl) (Yv0 m_whole_tree (pv 1) hr))
   (Qq4 (Qk1 (Qz8 Qb5 (Qx0 (Qx5 K) rfl B.len Qj3 (Qq0 (Qx4 (pv 1) rfl) Qq3)) Qq6 (Qx2 _))
   (Qq8 (Qz9 (Qy9 (Qq0 Qy7 (Qq0 (pv 2) Qq3)))))
   Qx8)
   (Qq4 (Qk1 (Qz8 Qb5 (Qx0 (Qx5 K) rfl B.len Qj3 (Qq0 (Qx4 (pv 1) rfl) Qq3)) Qq6 (Qx2 _))
   (Qq8 (Qz9 (Qy9 (Qq0 Qy7 (Qq0 (Qx1 (Qk0 K) (Qx4 (pv 1) rfl) Qq6 (fun _ _=>rfl)) (Qq0 (pv 2) Qq3))))))
   Qx8)
   (Qq8 (Qz9 (Qy9 (Qq0 Qy7 (Qq0 (Qx1 (Qk0 K) (Qx4 (pv 1) rfl) Qq6 (fun _ _=>rfl)) (Qq0 (Qx1 (Qk0 K) (Qx4 (pv 1) rfl) Qq6 (fun _ _=>rfl)) Qq3)))))))))),?_⟩
  refine⟨_,rfl,fun x dx hx hdx _=>?_⟩
  have s1:Same H (upd (upd H dx (.own x)) x (.ins CS dx [])):=Qw6 (Qq5 hdx) hx
  have hx1:(upd (upd H dx (.own x)) x (.ins CS dx [])) x=some (.ins CS dx []):=Qq1
  show Zv9 P w CS CL [.ref x,.ref tb] (upd (upd H dx (.own x)) x (.ins CS dx [])) _ E0
  generalize upd (upd H dx (.own x)) x (.ins CS dx [])=H1 at s1 hx1 ⊢
  refine⟨x,dx,tb,b,h,w',rfl,hx1,hbd.mono s1,bs,fun H2 ad eS k2 sh2 hlp hdb nlp nw=>⟨rfl,?_⟩⟩
  subst eS
  have s2:Same H H2:=fun y o hy=>k2 y o (s1 _ _ hy) fun z=>by rw[List.mem_singleton.mp z,hx]at hy;cases hy
  obtain⟨dxS,hS2⟩:=sh2.ins
  refine⟨_,rfl,ad.S,dxS,_,rfl,hS2,Zv7 _ _ _ _ _ (by decide +kernel) (by decide +kernel) (by decide +kernel) (by decide +kernel) (by decide +kernel),ad,h,w',b,rfl,bs,sh2,hlp,hdb,nlp,fun H3 val t ps k3 hS3 pc3 new3 t3 f3=>?_⟩
  obtain⟨dx3,hS3⟩:=hS3
  have s3:Same H H3:=fun y o hy=>k3 y o (s2 _ _ hy) fun z=>by
   have hn:H1 y=none:=nw y (by
    rcases List.mem_cons.mp z with z|z
    ·exact List.mem_cons.mpr (.inl z)
    rcases List.mem_cons.mp z with z|z
    ·exact List.mem_cons_of_mem _ (List.mem_cons.mpr (.inl z))
    ·exact List.mem_cons_of_mem _ (List.mem_cons_of_mem _ (List.mem_append_left _ z)))
   rw[s1 _ _ hy]at hn;cases hn
  have hnew:∀a∈ad.lp::ps.flatMap pcAd,H a=none:=fun a ha=>by
   rcases List.mem_cons.mp ha with z|z
   ·rw[z];exact s1.free (nw _ List.mem_cons_self)
   ·exact s2.free (new3 a z)
  have fin:∀tt,H3 tt=none→Q (.ref tt) (upd H3 tt (.tup (ansV val ps))):=fun tt htt=>by
   have s4:Same H3 (upd H3 tt (.tup (ansV val ps))):=Qq5 htt
   exact k _ tt t val ps ad.lp (s3.trans s4) (pc3.mono s4) hnew (t3.mono (TupK.of s4)) f3 Qq1
  have hpic:=Qr9 h w' ad.ll ad.lp ad.db
  refine⟨_,rfl,ad.S,CS,dx3,_,_,rfl,hS3,TS.cl,TS.nP,hpic,ad.lp,_,rfl,.inl (SqL.of pc3.at'),rfl,_,rfl,?_⟩
  refine ite2 (c:=decide (V.int (((ps.map fun p=>V.ref p.l).length:Nat):Int)=V.int 0)=true) (fun hb=>?_) (fun hb=>?_)
  ·have hb:=V.int.inj (of_decide_eq_true hb)
   rw[List.length_map]at hb
   obtain rfl:ps=[]:=List.length_eq_zero_iff.mp (by omega)
   exact⟨_,rfl,by show 2≤sizeLine;decide,fun tt htt=>fin tt htt⟩
  ·cases ps with
   | nil=>exact absurd (decide_eq_true rfl) hb
   | cons p ps =>
    refine⟨_,rfl,ad.S,CS,dx3,_,_,rfl,hS3,TS.cl,TS.nP,hpic,ad.lp,_,rfl,.inl (SqL.of pc3.at'),rfl,_,rfl,?_⟩
    refine ite2 (c:=decide (V.int ((((p::ps).map fun p=>V.ref p.l).length:Nat):Int)=V.int 1)=true) (fun hb2=>?_) (fun hb2=>?_)
    ·have hb2:=V.int.inj (of_decide_eq_true hb2)
     rw[List.length_map,List.length_cons]at hb2
     obtain rfl:ps=[]:=List.length_eq_zero_iff.mp (by omega)
     exact⟨_,rfl,ad.S,CS,dx3,_,_,rfl,hS3,TS.cl,TS.nP,hpic,ad.lp,_,_,_,rfl,rfl,SqL.of pc3.at',Qx7 (j:=0) rfl,_,rfl,by show 3≤sizeLine;decide,fun tt htt=>fin tt htt⟩
    ·cases ps with
     | nil=>exact absurd (decide_eq_true rfl) hb2
     | cons q ps=>exact⟨_,rfl,ad.S,CS,dx3,_,_,rfl,hS3,TS.cl,TS.nP,hpic,ad.lp,_,_,_,rfl,rfl,SqL.of pc3.at',Qx7 (j:=0) rfl,_,rfl,ad.S,CS,dx3,_,_,rfl,hS3,TS.cl,TS.nP,hpic,ad.lp,_,_,_,rfl,rfl,SqL.of pc3.at',Qx7 (j:=1) rfl,by show 3≤sizeLine;decide,fun tt htt=>fin tt htt⟩
end
section
structure POk (h w:Nat) (pic:List (List Int)):Prop where
 len:pic.length=h
 wid:∀xs∈pic,xs.length=w
 bit:∀xs∈pic,Qd5 xs
def Zx8 (pic:List (List Int)) (l:Nat×Nat):List Int:=if l.1=0 then pic.getD l.2 [] else colZ pic l.2
def pixP (pic:List (List Int)) (i j:Nat):Int:=(pic.getD i []).getD j 0
theorem POk.row {h w:Nat}{pic:List (List Int)} (o:POk h w pic) {i:Nat} (hi:i<h):pic[i]?=some (pic.getD i [])∧(pic.getD i []).length=w∧Qd5 (pic.getD i []):=by
 have h1:i<pic.length:=by rw[o.len];exact hi
 rw[Qz4 (List.getElem?_eq_getElem h1)]
 exact⟨List.getElem?_eq_getElem h1,o.wid _ (List.getElem_mem h1),o.bit _ (List.getElem_mem h1)⟩
theorem POk.line {h w:Nat}{pic:List (List Int)} (o:POk h w pic) {l:Nat×Nat} (hl:LOk h w l):(Zx8 pic l).length=lenL h w l∧Qd5 (Zx8 pic l)∧∀p,p<lenL h w l→(Zx8 pic l).getD p 0=pixP pic (posL l p).1 (posL l p).2:=by
 unfold Zx8 lenL posL
 rcases hl with ⟨h1,h2⟩|⟨h1,h2⟩
 ·rw[if_pos h1,if_pos h1]
  obtain⟨_,q1,q2⟩:=o.row h2
  exact⟨q1,q2,fun p _=>by rw[if_pos h1];rfl⟩
 ·rw[if_neg (by omega),if_neg (by omega)]
  refine⟨by unfold colZ;rw[List.length_map];exact o.len,fun z hz=>?_,fun p hp=>?_⟩
  ·unfold colZ at hz
   obtain⟨xs,hxs,rfl⟩:=List.mem_map.mp hz
   have hw:=o.wid xs hxs
   have h3:l.2<xs.length:=by omega
   rw[Qz4 (List.getElem?_eq_getElem h3)]
   exact o.bit xs hxs _ (List.getElem_mem h3)
  ·rw[if_neg (by omega)]
   have hp':p<pic.length:=by rw[o.len];exact hp
   unfold colZ pixP
   rw[Qz4 (x:=(pic[p]).getD l.2 0) (by rw[List.getElem?_map,List.getElem?_eq_getElem hp'];rfl),Qz4 (List.getElem?_eq_getElem hp')]
def Zq7 (xss:List (List Int)):Prop:=∀xs∈xss,(∀x∈xs,1≤x∧x≤500)∧xs.length≤2
theorem Zn2 {xss:List (List Int)}{i:Nat}{ys:List Int} (h:Zq7 xss) (hy:(∀x∈ys,1≤x∧x≤500)∧ys.length≤2):Zq7 (xss.set i ys):=fun xs hx=>by
 rcases Yw0 hx with z|z
 ·rw[z];exact hy
 ·exact h xs z
structure B2 (h w:Nat) (b:Brd):Prop where
 rows:b.1.length=h
 cols:b.2.length=w
 r1:Zq7 b.1
 r2:Zq7 b.2
theorem B2.ok {h w:Nat}{b:Brd} (o:B2 h w b):BOk h w b:=⟨o.rows,o.cols,fun xs hx=>⟨(o.r1 xs hx).1,by have:=(o.r1 xs hx).2;omega⟩,fun xs hx=>⟨(o.r2 xs hx).1,by have:=(o.r2 xs hx).2;omega⟩⟩
theorem B2.sm {h w:Nat}{b:Brd} (o:B2 h w b) (hh:h≤4) (hw:w≤4):BSm h w b:=⟨o.ok,hh,hw,fun l hl=>by
 obtain⟨xs,e,eR,_⟩:=o.ok.at' hl
 rw[eR]
 unfold natR
 rw[List.length_map]
 rcases hl with ⟨h1,_⟩|⟨h1,_⟩
 ·rw[if_pos h1]at e;exact(o.r1 xs (List.mem_of_getElem? e)).2
 ·rw[if_neg (by omega)]at e;exact(o.r2 xs (List.mem_of_getElem? e)).2⟩
theorem Zd2:∀(ns:List Int) (acc:Int),0≤acc→2*(Qh5 acc ns).length≤ns.length+2∧(acc=0→2*(Qh5 acc ns).length≤ns.length+1)
 | [],acc,h=>by
  unfold Qh5
  by_cases q:0<acc
  ·rw[if_pos q]
   exact⟨by simp,fun e=>by omega⟩
  ·rw[if_neg q]
   exact⟨by simp,fun _=>by simp⟩
 | z::r,acc,h=>by
  unfold Qh5
  rw[List.length_cons]
  have h0:=(Zd2 r 0 (by omega)).2 rfl
  by_cases q:z=1
  ·rw[if_pos q]
   have:=(Zd2 r (acc+1) (by omega)).1
   exact⟨by omega,fun _=>by omega⟩
  ·rw[if_neg q]
   by_cases g:0<acc
   ·rw[if_pos g,List.length_cons]
    exact⟨by omega,fun e=>by omega⟩
   ·rw[if_neg g]
    exact⟨by omega,fun e=>by omega⟩
theorem Qe6:∀(ns:List Int) (acc:Int),0≤acc→∀x∈Qh5 acc ns,1≤x∧x≤acc+ns.length
 | [],acc,h,x,hx=>by
  unfold Qh5 at hx
  split at hx
  ·rename_i q
   have:x=acc:=by simpa using hx
   simp
   omega
  ·simp at hx
 | z::r,acc,h,x,hx=>by
  unfold Qh5 at hx
  rw[List.length_cons]
  split at hx
  ·have:=Qe6 r (acc+1) (by omega) x hx
   omega
  ·split at hx
   ·rcases List.mem_cons.mp hx with e|e
    ·omega
    ·have:=Qe6 r 0 (by omega) x e
     omega
   ·have:=Qe6 r 0 (by omega) x hx
    omega
theorem Xh4 {c:List Int} (hc:c.length≤4):(∀x∈Qk2 c,1≤x∧x≤500)∧(Qk2 c).length≤2:=by
 rw[Qo4]
 refine⟨fun x hx=>?_,?_⟩
 ·have:=Qe6 c 0 (by omega) x hx
  omega
 ·have:=(Zd2 c 0 (by omega)).2 rfl
  omega
theorem Zo2 {h w:Nat}{pic:List (List Int)} (o:POk h w pic) (hh:h≤4) (hw:w≤4):B2 h w (Qe9 pic w):=by
 unfold Qe9
 refine⟨by rw[List.length_map];exact o.len,by rw[List.length_map,List.length_range],fun xs hx=>?_,fun xs hx=>?_⟩
 ·obtain⟨c,hc,rfl⟩:=List.mem_map.mp hx
  exact Xh4 (by rw[o.wid c hc];exact hw)
 ·obtain⟨j,hj,rfl⟩:=List.mem_map.mp hx
  exact Xh4 (by unfold colZ;rw[List.length_map,o.len];exact hh)
theorem Yp0 (c:Int) (r wd:Nat):POk r wd (Rp.picZ c r wd):=⟨Xe4 c r wd,fun xs hx=>Xe5 hx,fun xs hx z hz=>by
 unfold Rp.picZ at hx
 obtain⟨i,_,rfl⟩:=List.mem_map.mp hx
 unfold Zk8 at hz
 obtain⟨j,_,rfl⟩:=List.mem_map.mp hz
 unfold pixZ
 split<;>simp⟩
structure FitP (h w:Nat) (b:Brd) (p:List (List Int)):Prop where
 ok:POk h w p
 run:∀l,LOk h w l→Qk2 (Zx8 p l)=Qw3 (Qw8 b l.1 l.2)
theorem Zd3 {α β:Type} (f:α→β) (xs:List α) (i:Nat) (d:α) (e:β) (he:f d=e):(xs.map f).getD i e=f (xs.getD i d):=by
 rw[List.getD_eq_getElem?_getD,List.getD_eq_getElem?_getD,List.getElem?_map]
 cases xs[i]? with
 | none=>exact he.symm
 | some x=>rfl
theorem Zn3 (u:View) (i j:Nat):pixP (picZ u) i j=(Qz5 u i j).getD 0:=by
 unfold pixP picZ Qz5
 rw[Zd3 (fun s=>s.map fun o:Option Int=>o.getD 0) u i [] [] rfl,Zd3 (fun o:Option Int=>o.getD 0) (u.getD i []) j none 0 rfl]
theorem Yy0 {h w:Nat}{u:View} (vo:VOk h w u):POk h w (picZ u):=by
 unfold picZ
 refine⟨by rw[List.length_map];exact vo.len,fun xs hx=>?_,fun xs hx z hz=>?_⟩
 ·obtain⟨s,hs,rfl⟩:=List.mem_map.mp hx
  rw[List.length_map];exact vo.wid s hs
 ·obtain⟨s,hs,rfl⟩:=List.mem_map.mp hx
  obtain⟨o,ho,rfl⟩:=List.mem_map.mp hz
  rcases vo.bit s hs o ho with e|e|e<;>rw[e]
  ·exact .inl rfl
  ·exact .inl rfl
  ·exact .inr rfl
theorem Zn4 {α:Type}{xs ys:List α}{d:α} (hl:xs.length=ys.length) (h:∀i,i<xs.length→xs.getD i d=ys.getD i d):xs=ys:=by
 apply List.ext_getElem hl
 intro i h1 h2
 have:=h i h1
 rw[Qz4 (List.getElem?_eq_getElem h1),Qz4 (List.getElem?_eq_getElem h2)]at this
 exact this
theorem Xt1 {h w:Nat}{b:Brd}{u:View} (ob:BOk h w b) (vo:VOk h w u) (d:Done h w u) (f:Fits h w b u):FitP h w b (picZ u):=by
 have po:=Yy0 vo
 refine⟨po,fun l hl=>?_⟩
 obtain⟨c,hc⟩:=List.exists_mem_of_ne_nil _ (f l hl)
 unfold Qj8 at hc
 rw[Qc6 (ob.pos hl) (Qm0 vo hl),Qv9 vo hl]at hc
 obtain⟨_,c2,c3,c4⟩:=hc
 obtain⟨q1,_,q3⟩:=po.line hl
 have e:Zx8 (picZ u) l=c:=Zn4 (d:=0) (by rw[q1,c2]) fun i hi=>by
  rw[q1]at hi
  have:=c4 i hi
  rw[Qw9 vo hl hi]at this
  rw[q3 i hi,Zn3]
  obtain⟨p1,p2⟩:=Qd0 hl hi
  rcases this with z|z
  ·exact absurd z (d _ _ p1 p2)
  ·rw[z];rfl
 rw[e,c3]
def Qe7 (p:List (List Int)):View:=p.map fun xs=>xs.map some
theorem Zo3 {h w:Nat}{p:List (List Int)} (o:POk h w p) {i j:Nat} (hi:i<h) (hj:j<w):Qz5 (Qe7 p) i j=some (pixP p i j):=by
 obtain⟨q1,q2,_⟩:=o.row hi
 have hj':j<(p.getD i []).length:=by rw[q2];exact hj
 unfold Qz5 Qe7 pixP
 rw[Zd3 (fun xs:List Int=>xs.map some) p i [] [] rfl,Qz4 (x:=some ((p.getD i [])[j])) (by rw[List.getElem?_map,List.getElem?_eq_getElem hj'];rfl),Qz4 (List.getElem?_eq_getElem hj')]
theorem Xh5 {h w:Nat}{p:List (List Int)} (o:POk h w p):VOk h w (Qe7 p):=by
 unfold Qe7
 refine⟨by rw[List.length_map];exact o.len,fun s hs=>?_,fun s hs x hx=>?_⟩
 ·obtain⟨xs,hx,rfl⟩:=List.mem_map.mp hs
  rw[List.length_map];exact o.wid xs hx
 ·obtain⟨xs,hx',rfl⟩:=List.mem_map.mp hs
  obtain⟨z,hz,rfl⟩:=List.mem_map.mp hx
  rcases o.bit xs hx' z hz with e|e<;>rw[e]
  ·exact .inr (.inl rfl)
  ·exact .inr (.inr rfl)
theorem Xl7 {h w:Nat}{p:List (List Int)} (o:POk h w p):Done h w (Qe7 p):=fun i j hi hj z=>by rw[Zo3 o hi hj]at z;cases z
theorem Xl8 (p:List (List Int)):picZ (Qe7 p)=p:=by
 unfold picZ Qe7
 rw[List.map_map]
 conv=>rhs;rw[←List.map_id p]
 apply List.map_congr_left
 intro xs _
 show (xs.map some).map (fun o=>o.getD 0)=xs
 rw[List.map_map]
 conv=>rhs;rw[←List.map_id xs]
 rfl
theorem Xl9 {h w:Nat}{b:Brd}{p:List (List Int)} (ob:BOk h w b) (f:FitP h w b p):Fits h w b (Qe7 p):=fun l hl=>by
 have vo:=Xh5 f.ok
 obtain⟨q1,q2,q3⟩:=f.ok.line hl
 have:Zx8 p l∈Qj8 b l (Qe7 p):=by
  unfold Qj8
  rw[Qc6 (ob.pos hl) (Qm0 vo hl),Qv9 vo hl]
  refine⟨q2,q1,f.run l hl,fun i hi=>.inr ?_⟩
  obtain⟨p1,p2⟩:=Qd0 hl hi
  rw[Qw9 vo hl hi,Zo3 f.ok p1 p2,q3 i hi]
 exact List.ne_nil_of_mem this
theorem Yz4 {h w:Nat}{u v:View} (vu:VOk h w u) (vv:VOk h w v) (du:Done h w u) (dv:Done h w v) (e:picZ u=picZ v):u=v:=Xg5 vu vv fun i j hi hj=>by
 have h1:=Zn3 u i j
 have h2:=Zn3 v i j
 rw[e,h2]at h1
 cases q1:Qz5 u i j with
 | none=>exact absurd q1 (du i j hi hj)
 | some x =>
  cases q2:Qz5 v i j with
  | none=>exact absurd q2 (dv i j hi hj)
  | some y =>
   rw[q1,q2]at h1
   exact congrArg some h1.symm
def Zo4 (f:Nat→List (List Int)):Nat→List (List (List Int))
 | 0=>[[]]
 | i+1=>(Zo4 f i).flatMap fun r=>(f i).map fun c=>r++[c]
theorem Zn5 (f:Nat→List (List Int)):∀(n:Nat) (p:List (List Int)),p∈Zo4 f n↔p.length=n∧∀i,i<n→p.getD i []∈f i
 | 0,p=>by
  unfold Zo4
  rw[List.mem_singleton]
  constructor
  ·intro e;rw[e];exact⟨rfl,fun i hi=>absurd hi (Nat.not_lt_zero _)⟩
  ·intro e;exact List.length_eq_zero_iff.mp e.1
 | n+1,p=>by
  unfold Zo4
  rw[List.mem_flatMap]
  constructor
  ·rintro⟨r,hr,hp⟩
   obtain⟨c,hc,rfl⟩:=List.mem_map.mp hp
   obtain⟨h1,h2⟩:=(Zn5 f n r).mp hr
   refine⟨by rw[List.length_append,h1];rfl,fun i hi=>?_⟩
   rw[List.getD_eq_getElem?_getD]
   by_cases e:i<n
   ·rw[List.getElem?_append_left (by omega),←List.getD_eq_getElem?_getD]
    exact h2 i e
   ·have e':i=n:=by omega
    rw[List.getElem?_append_right (by omega),h1,e',Nat.sub_self]
    exact hc
  ·rintro⟨h1,h2⟩
   have hne:p≠[]:=fun e=>by rw[e]at h1;cases h1
   have hsp:p.dropLast++[p.getLast hne]=p:=List.dropLast_concat_getLast hne
   have hdl:p.dropLast.length=n:=by rw[List.length_dropLast,h1];rfl
   refine⟨p.dropLast,(Zn5 f n _).mpr ⟨hdl,fun i hi=>?_⟩,List.mem_map.mpr ⟨p.getLast hne,?_,hsp⟩⟩
   ·have:=h2 i (by omega)
    rw[←hsp,List.getD_eq_getElem?_getD,List.getElem?_append_left (by omega),←List.getD_eq_getElem?_getD]at this
    exact this
   ·have:=h2 n (by omega)
    rw[←hsp,List.getD_eq_getElem?_getD,List.getElem?_append_right (by omega),hdl,Nat.sub_self]at this
    exact this
def blk (w:Nat):Qj5:=List.replicate w none
theorem Ym5 (w:Nat):Qd6 (blk w):=fun x hx=>.inl (List.mem_replicate.mp hx).2
theorem Yy1 (w:Nat):(blk w).length=w:=List.length_replicate
def Xh6 (b:Brd) (w i:Nat):List (List Int):=layL (natR (b.1.getD i [])) (blk w)
theorem Zd4 {xss:List (List Int)} (h:∀xs∈xss,(∀x∈xs,1≤x∧x≤500)∧xs.length≤100) (i:Nat):∀x∈xss.getD i [],1≤x∧x≤500:=by
 by_cases hi:i<xss.length
 ·rw[Qz4 (List.getElem?_eq_getElem hi)]
  exact(h _ (List.getElem_mem hi)).1
 ·rw[List.getD_eq_getElem?_getD,List.getElem?_eq_none (by omega)]
  intro x hx;cases hx
theorem Zx9 {h w:Nat}{b:Brd} (ob:BOk h w b) {i:Nat}{c:List Int}:c∈Xh6 b w i↔Qd5 c∧c.length=w∧Qk2 c=b.1.getD i []:=by
 have g:=Zd4 ob.r1 i
 unfold Xh6
 rw[Qc6 (fun k hk=>(Zg6 g k hk).1) (Ym5 w),Yy1,←Xj0 g]
 constructor
 ·rintro⟨h1,h2,h3,_⟩;exact⟨h1,h2,h3⟩
 ·rintro⟨h1,h2,h3⟩
  refine⟨h1,h2,h3,fun p hp=>.inl ?_⟩
  unfold blk
  rw[List.getD_eq_getElem?_getD,List.getElem?_replicate,if_pos hp]
  rfl
def Xt2 (b:Brd) (p:List (List Int)) (k:Nat):List Nat:=(List.range k).filter fun j=>!decide (Qk2 (colZ p j)=b.2.getD j [])
def dueL (h w:Nat) (b:Brd):List (List (List Int)):=(Zo4 (Xh6 b w) h).filter fun p=>decide (Xt2 b p w=[])
theorem Qt3 {h w:Nat}{b:Brd} (ob:BOk h w b) {l:Nat×Nat} (hl:LOk h w l):Qw3 (Qw8 b l.1 l.2)=(if l.1=0 then b.1 else b.2).getD l.2 []:=by
 unfold Qw8
 refine(Xj0 ?_).symm
 split
 ·exact Zd4 ob.r1 _
 ·exact Zd4 ob.r2 _
theorem Zl5 {h w:Nat}{b:Brd} (ob:BOk h w b) {p:List (List Int)}:p∈dueL h w b↔FitP h w b p:=by
 unfold dueL
 rw[List.mem_filter,Zn5,decide_eq_true_eq]
 unfold Xt2
 rw[List.filter_eq_nil_iff]
 constructor
 ·rintro⟨⟨h1,h2⟩,h3⟩
  have hrow:∀xs∈p,∃i,i<h∧p.getD i []=xs:=fun xs hx=>by
   obtain⟨i,hi,e⟩:=List.getElem_of_mem hx
   exact⟨i,by omega,by rw[Qz4 (List.getElem?_eq_getElem hi),e]⟩
  refine⟨⟨h1,fun xs hx=>?_,fun xs hx=>?_⟩,fun l hl=>?_⟩
  ·obtain⟨i,hi,e⟩:=hrow xs hx
   have:=(Zx9 ob).mp (h2 i hi)
   rw[e]at this
   exact this.2.1
  ·obtain⟨i,hi,e⟩:=hrow xs hx
   have:=(Zx9 ob).mp (h2 i hi)
   rw[e]at this
   exact this.1
  ·rw[Qt3 ob hl]
   unfold Zx8
   rcases hl with ⟨g1,g2⟩|⟨g1,g2⟩
   ·rw[if_pos g1,if_pos g1]
    exact((Zx9 ob).mp (h2 _ g2)).2.2
   ·rw[if_neg (by omega),if_neg (by omega)]
    have:=h3 l.2 (List.mem_range.mpr g2)
    simpa using this
 ·intro f
  refine⟨⟨f.ok.len,fun i hi=>(Zx9 ob).mpr ?_⟩,fun j hj=>?_⟩
  ·obtain⟨_,q1,q2⟩:=f.ok.row hi
   have hl:LOk h w (0,i):=.inl ⟨rfl,hi⟩
   have:=f.run (0,i) hl
   rw[Qt3 ob hl]at this
   exact⟨q2,q1,this⟩
  ·have hl:LOk h w (1,j):=.inr ⟨rfl,List.mem_range.mp hj⟩
   have:=f.run (1,j) hl
   rw[Qt3 ob hl]at this
   have e:Qk2 (colZ p j)=b.2.getD j []:=this
   rw[decide_eq_true e]
   decide
theorem Yz5 (h w:Nat) (u:View):LeV h w (Qd9 h w) u:=fun i j _ _ z q=>by rw[Zo1]at q;cases q
theorem Xt3 {h w:Nat}{b:Brd} (ob:BOk h w b) {t:Tree}{ns:List View} (F:Found h w b (Qd9 h w) t [] ns):(∀u∈ns,picZ u∈dueL h w b)∧(ns.map picZ).Nodup∧(ns.length≤1→∀p∈dueL h w b,p∈ns.map picZ):=by
 obtain⟨ms,e,g1,g2,g3⟩:=F.new
 have e':ns=ms:=by rw[e];rfl
 subst e'
 refine⟨fun u hu=>(Zl5 ob).mpr (Xt1 ob (g1 u hu).1 (g1 u hu).2.1 (g1 u hu).2.2.1),?_,fun hl p hp=>?_⟩
 ·refine List.pairwise_map.mpr (List.Pairwise.imp_of_mem (fun {a c} ha hc hne e=>hne ?_) g2)
  exact Yz4 (g1 a ha).1 (g1 c hc).1 (g1 a ha).2.1 (g1 c hc).2.1 e
 ·have f:=(Zl5 ob).mp hp
  exact List.mem_map.mpr ⟨Qe7 p,(g3 hl).whole ob (Qi8 h w) _ (Xh5 f.ok) (Xl7 f.ok) (Xl9 ob f) (Yz5 h w _),Xl8 p⟩
end
section
variable {P:Program}{w:World}{K:PySem.W.Frag}{mg:Str→Option Value}{base:Heap}{C:Addr}
theorem Zn6 {H:Hp}{ds:List Dt}{xs:List V}{i:Nat}{d:Dt}{v:V} (h:IsDs H ds xs) (hd:IsD H d v):IsDs H (ds.set i d) (xs.set i v):=by
 have hl:=h.length
 refine Ql2 (by rw[List.length_set,List.length_set];exact hl) fun j d' x' e1 e2=>?_
 by_cases hj:j=i
 ·subst hj
  have h1:j<ds.length:=by have:=(List.getElem?_eq_some_iff.mp e1).1;rwa [List.length_set]at this
  rw[List.getElem?_set_self h1]at e1
  rw[List.getElem?_set_self (by omega)]at e2
  cases e1;cases e2
  exact hd
 ·rw[List.getElem?_set_ne (Ne.symm hj)]at e1 e2
  obtain⟨x,q1,q2⟩:=h.get e1
  rw[q1]at e2
  cases e2
  exact q2
def Qn6:Sp:=fun vs H Q _=>∃(c:Int) (tb:Addr) (b:Brd) (h wd:Nat),vs=[.int c,.ref tb]∧IsD H (Qv8 b) (.ref tb)∧B2 h wd b∧1≤h∧h≤100∧1≤wd∧wd≤100 ∧
 ∀(t:Addr) (b':Brd) (H':Hp),Same H H'→IsD H' (Qv8 b') (.ref t)→B2 h wd b'→Q (.ref t) H'
theorem Qv6:FnScope ["cell","board","rows","columns","k","at","other","kept","size"] ["cell","board"] (Qz0 Qb3):=⟨rfl,rfl,rfl,by decide +kernel,rfl,by decide +kernel,by decide +kernel⟩
theorem Zc0 {f:Addr}{fd:FuncData} (F:Fun K "_law_any_board" "_law_any_board" Qb3 f fd) (B:Bt mg) (c__law_mix:Callee P w K mg base CX0 "_law_mix" 1 ["cell","k"] Qe5):FnOk P w K mg base CX0 2 f fd ["cell","board"] Qn6:=by
 refine F.ok Qv6 (fun vs H Q E h=>?_) (fun cdv A outer s H vs Q E hr h=>?_)
 ·obtain⟨c,tb,b,h,wd,rfl,_⟩:=h
  rfl
 ·obtain⟨c,tb,b,h,wd,rfl,hb,bo,h1,h2,w1,w2,k⟩:=h
  refine⟨_,(Qq4 (Qz6 (i:=2) Qv6.nd rfl (Or.inl rfl) (Qv0 (Qb6 K) rfl B.list Qm4 (Qq0 (Qx1 (Qx6 K) (pv 1) Qq6 (fun _ _=>rfl)) Qq3)))
   (Qq4 (Qz6 (i:=3) Qv6.nd rfl (Or.inl rfl) (Qv0 (Qb6 K) rfl B.list Qm4 (Qq0 (Qx1 (Qx6 K) (pv 1) Qq6 (fun _ _=>rfl)) Qq3)))
   (Qq4 (Qf3 PassesOwn.never rfl (Qy8 rfl B.range (Qq0 (Qz7 Ql8 (Qj6 c__law_mix hr (Qq0 (pv 0) (Qq0 Qq6 Qq3))) Qq6) Qq3)) (Qx3 (i:=4) Qv6.nd rfl (Or.inl rfl))
   (Qq4 (Qz6 (i:=5) Qv6.nd rfl (Or.inl rfl) (Qz7 Ql8 (Qj6 c__law_mix hr (Qq0 (pv 0) (Qq0 (Qz7 Qy1 Qq6 (pv 4)) Qq3))) (Qx0 (Qx5 K) rfl B.len Qj3 (Qq0 (pv 2) Qq3))))
   (Qq4 (Qz6 (i:=6) Qv6.nd rfl (Or.inl rfl) (Qz7 Ql8 (Qj6 c__law_mix hr (Qq0 (pv 0) (Qq0 (Qz7 Qy1 Qq6 (pv 4)) Qq3))) (Qx0 (Qx5 K) rfl B.len Qj3 (Qq0 (pv 2) Qq3))))
   (Qq4 (Qz6 (i:=7) Qv6.nd rfl (Or.inl rfl) (Qx1 (Qk0 K) (pv 2) (pv 5) (fun _ _=>rfl)))
   (Qq4 (Zy7 (Qx1 (Qk0 K) (pv 2) (pv 6) (fun _ _=>rfl)) (Zy6 (pv 2) (pv 5) Qo0))
   (Qq8 (Zy7 (pv 7) (Zy6 (pv 2) (pv 6) Qo0))))))))
   (Qs4 (Qk1 (Qz8 Qb5 (Qz7 Ql8 (Qj6 c__law_mix hr (Qq0 (pv 0) (Qq0 Qq6 Qq3))) Qq6) Qq6 (Qx2 _))
   (Qq4 (Qz6 (i:=5) Qv6.nd rfl (Or.inl rfl) (Qz7 Ql8 (Qj6 c__law_mix hr (Qq0 (pv 0) (Qq0 Qq6 Qq3))) (Qx0 (Qx5 K) rfl B.len Qj3 (Qq0 (pv 3) Qq3))))
   (Qq4 (Qz6 (i:=8) Qv6.nd rfl (Or.inl rfl) (Qz7 Qy1 Qq6 (Qz7 Ql8 (Qj6 c__law_mix hr (Qq0 (pv 0) (Qq0 Qq6 Qq3))) (Qx0 (Qx5 K) rfl B.len Qj3 (Qq0 (pv 2) Qq3)))))
   (Qq8 (Zy7 (Qy9 (Qq0 (pv 8) Qq3)) (Zy6 (pv 3) (pv 5) Qo0)))))
   Qx8)
   (Qq8 (Qz9 (Qy9 (Qq0 (Qv0 (Qn7 K) rfl B.tuple Ql1 (Qq0 (pv 2) Qq3)) (Qq0 (Qv0 (Qn7 K) rfl B.tuple Ql1 (Qq0 (pv 3) Qq3)) Qq3))))))))),?_⟩
  obtain⟨ra,ca,ha,hra,hca⟩:=Rp.board_inv hb
  obtain⟨vs,hvs,hvd⟩:=Rp.tups_inv hra
  obtain⟨us,hus,hud⟩:=Rp.tups_inv hca
  have e1:=bo.rows
  have e2:=bo.cols
  refine⟨_,rfl,tb,_,_,.ref ra,rfl,rfl,SqT.of ha,rfl,ra,_,rfl,.inr (SqT.of hvs),fun lr hlr=>?_⟩
  have s1:Same H (upd H lr (.lst vs)):=Qq5 hlr
  have hlr1:(upd H lr (.lst vs)) lr=some (.lst vs):=Qq1
  generalize upd H lr (.lst vs)=H1 at s1 hlr1 ⊢
  refine⟨_,rfl,tb,_,_,.ref ca,rfl,rfl,SqT.of (s1 _ _ ha),rfl,ca,_,rfl,.inr (SqT.of (s1 _ _ hus)),fun lc hlc=>?_⟩
  have s2:Same H1 (upd H1 lc (.lst us)):=Qq5 hlc
  have hlc2:(upd H1 lc (.lst us)) lc=some (.lst us):=Qq1
  generalize upd H1 lc (.lst us)=H2 at s2 hlc2 ⊢
  have nrc:lr≠lc:=fun z=>by rw[←z,hlr1]at hlc;cases hlc
  have nlc:H lc=none:=s1.free hlc
  have toH:Same H (hide [lr,lc] H2):=fun a o e=>Qr5 (s2 _ _ (s1 _ _ e)) (fun z=>by
   rcases List.mem_cons.mp z with z|z
   ·rw[z,hlr]at e;cases e
   ·rw[List.mem_singleton.mp z,nlc]at e;cases e)
  have g1:Zq7 b.1:=bo.r1
  have g2:Zq7 b.2:=bo.r2
  obtain⟨m3,hm3⟩:∃m3:Nat,mixZ c 11%3=m3:=⟨(mixZ c 11%3).toNat,by omega⟩
  have hm3':m3≤2:=by omega
  refine⟨_,rfl,_,_,rfl,_,_,rfl,rfl,pz rfl,(m3:Nat),(by show [V.int (mixZ c 11%3)]=_;rw[hm3]),by omega,by omega,Qn0 (lo:=0) (n:=((m3:Nat):Int).toNat) (fun i σ H3=>∃(o4 o5 o6 o7:Option V) (ws:List V) (xss:List (List Int)),σ=[some (.int c),some (.ref tb),some (.ref lr),some (.ref lc),o4,o5,o6,o7,none]∧Same H H3∧H3 lr=some (.lst ws)∧H3 lc=some (.lst us)∧IsDs (hide [lr,lc] H3) (xss.map dTup) ws∧IsDs (hide [lr,lc] H3) (b.2.map dTup) us∧Zq7 xss∧xss.length=h)
   ⟨none,none,none,none,vs,b.1,rfl,s1.trans s2,s2 _ _ hlr1,hlc2,IsDs.mono toH hvd,IsDs.mono toH hud,g1,e1⟩ ?_ ?_⟩
  ·intro P1 m1
   rintro i σ H3 hi ⟨o4,o5,o6,o7,ws,xss,rfl,s3,hlr3,hlc3,hd3,hu3,g3,l3⟩
   have hwl:=Qb0 hd3
   obtain⟨p,hp⟩:∃p:Nat,mixZ c (12+(0+(i:Int)))%((ws.length:Nat):Int)=p:=⟨(mixZ c (12+(0+(i:Int)))%((ws.length:Nat):Int)).toNat,by have:=Int.emod_nonneg (mixZ c (12+(0+(i:Int)))) (b:=((ws.length:Nat):Int)) (by omega);omega⟩
   have hpl:p<ws.length:=by have:=Int.emod_lt_of_pos (mixZ c (12+(0+(i:Int)))) (b:=((ws.length:Nat):Int)) (by omega);omega
   obtain⟨q,hq⟩:∃q:Nat,mixZ c (22+(0+(i:Int)))%((ws.length:Nat):Int)=q:=⟨(mixZ c (22+(0+(i:Int)))%((ws.length:Nat):Int)).toNat,by have:=Int.emod_nonneg (mixZ c (22+(0+(i:Int)))) (b:=((ws.length:Nat):Int)) (by omega);omega⟩
   have hql:q<ws.length:=by have:=Int.emod_lt_of_pos (mixZ c (22+(0+(i:Int)))) (b:=((ws.length:Nat):Int)) (by omega);omega
   refine⟨_,rfl,_,rfl,_,_,rfl,rfl,_,_,rfl,_,rfl,lr,_,rfl,.inl (SqL.of hlr3),_,_,rfl,rfl,by omega,?_⟩
   show Qu5 5 (V.int (mixZ c (12+(0+(i:Int)))%((ws.length:Nat):Int))) _ _ _
   rw[hp]
   refine⟨_,rfl,_,rfl,_,_,rfl,rfl,_,_,rfl,_,rfl,lr,_,rfl,.inl (SqL.of hlr3),_,_,rfl,rfl,by omega,?_⟩
   show Qu5 6 (V.int (mixZ c (22+(0+(i:Int)))%((ws.length:Nat):Int))) _ _ _
   rw[hq]
   obtain⟨xp,hxp,dxp⟩:=Qu4 hd3 (List.getElem?_eq_getElem hpl)
   obtain⟨xq,hxq,dxq⟩:=Qu4 hd3 (List.getElem?_eq_getElem hql)
   refine⟨_,rfl,_,rfl,lr,_,_,ws[p],rfl,rfl,SqL.of hlr3,Qx7 (List.getElem?_eq_getElem hpl),?_⟩
   refine⟨_,rfl,_,rfl,lr,_,_,ws[q],rfl,rfl,SqL.of hlr3,Qx7 (List.getElem?_eq_getElem hql),_,rfl,_,rfl,lr,_,_,p,rfl,rfl,hlr3,Zg7 hpl,?_⟩
   refine⟨_,rfl,_,rfl,_,rfl,lr,_,_,q,rfl,rfl,Qq1,Zg7 (by rw[List.length_set];exact hql),?_⟩
   rw[Xp0]
   have kk:Qz2 H3 (upd H3 lr (.lst ((ws.set p ws[q]).set q ws[p]))) [lr,lc]:=(Qz2.refl H3 _).upd List.mem_cons_self
   refine m1 _ _ _ ⟨_,_,_,_,(ws.set p ws[q]).set q ws[p],(xss.set p xq).set q xp,rfl,Qw6 s3 hlr,Qq1,by rw[Qz1 (Ne.symm nrc)];exact hlc3,?_,IsDs.mono (Qs5 kk) hu3,Zn2 (Zn2 g3 (g3 _ (List.mem_of_getElem? hxq))) (g3 _ (List.mem_of_getElem? hxp)),by rw[List.length_set,List.length_set];exact l3⟩
   rw[List.map_set,List.map_set]
   exact IsDs.mono (Qs5 kk) (Zn6 (Zn6 hd3 dxq) dxp)
  rintro σ H3 ⟨o4,o5,o6,o7,ws,xss,rfl,s3,hlr3,hlc3,hd3,hu3,g3,l3⟩
  have hwl:=Qb0 hd3
  have hul:=Qb0 hu3
  refine Yx7 (fun σ' H4=>∃(o4 o5 o6 o7 o8:Option V) (us':List V) (yss:List (List Int)),σ'=[some (.int c),some (.ref tb),some (.ref lr),some (.ref lc),o4,o5,o6,o7,o8]∧Same H H4∧H4 lr=some (.lst ws)∧H4 lc=some (.lst us')∧IsDs (hide [lr,lc] H4) (xss.map dTup) ws∧IsDs (hide [lr,lc] H4) (yss.map dTup) us'∧Zq7 yss∧yss.length=wd) (fun J mJ=>?_) ?_
  ·refine⟨_,rfl,_,_,rfl,_,_,rfl,rfl,pz rfl,rfl,_,rfl,?_⟩
   refine ite2 (fun _=>?_) (fun _=>?_)
   ·obtain⟨p,hp⟩:∃p:Nat,mixZ c 32%((us.length:Nat):Int)=p:=⟨(mixZ c 32%((us.length:Nat):Int)).toNat,by have:=Int.emod_nonneg (mixZ c 32) (b:=((us.length:Nat):Int)) (by omega);omega⟩
    have hpl:p<us.length:=by have:=Int.emod_lt_of_pos (mixZ c 32) (b:=((us.length:Nat):Int)) (by omega);omega
    obtain⟨q,hq⟩:∃q:Nat,mixZ c 33%((ws.length:Nat):Int)=q:=⟨(mixZ c 33%((ws.length:Nat):Int)).toNat,by have:=Int.emod_nonneg (mixZ c 33) (b:=((ws.length:Nat):Int)) (by omega);omega⟩
    have hql:q<ws.length:=by have:=Int.emod_lt_of_pos (mixZ c 33) (b:=((ws.length:Nat):Int)) (by omega);omega
    refine⟨_,rfl,_,_,rfl,_,rfl,lc,_,rfl,.inl (SqL.of hlc3),_,_,rfl,rfl,by omega,?_⟩
    show Qu5 5 (V.int (mixZ c 32%((us.length:Nat):Int))) _ _ _
    rw[hp]
    refine⟨_,rfl,_,_,rfl,_,rfl,lr,_,rfl,.inl (SqL.of hlr3),_,_,rfl,rfl,by omega,_,_,rfl,rfl,?_⟩
    show Qu5 8 (V.int (1+mixZ c 33%((ws.length:Nat):Int))) _ _ _
    rw[hq]
    refine⟨_,rfl,by show 1≤sizeLine;decide,fun t ht=>?_⟩
    have s4:Same H3 (upd H3 t (.tup [.int (1+(q:Int))])):=Qq5 ht
    have ht4:(upd H3 t (.tup [.int (1+(q:Int))])) t=some (.tup ([1+(q:Int)].map V.int)):=Qq1
    generalize upd H3 t (.tup [V.int (1+(q:Int))])=H4 at s4 ht4 ⊢
    have ntl:t∉[lr,lc]:=fun z=>by
     rcases List.mem_cons.mp z with z|z
     ·rw[z,hlr3]at ht;cases ht
     ·rw[List.mem_singleton.mp z,hlc3]at ht;cases ht
    refine⟨_,rfl,_,rfl,lc,_,_,p,rfl,rfl,s4 _ _ hlc3,Zg7 hpl,?_⟩
    have kk:Qz2 H4 (upd H4 lc (.lst (us.set p (.ref t)))) [lr,lc]:=(Qz2.refl H4 _).upd (List.mem_cons_of_mem _ List.mem_cons_self)
    refine mJ _ _ ⟨_,_,_,_,_,us.set p (.ref t),b.2.set p [1+(q:Int)],rfl,Qw6 (s3.trans s4) nlc,by rw[Qz1 nrc];exact s4 _ _ hlr3,Qq1,IsDs.mono (Qs5 kk) (IsDs.mono (Qc0 s4) hd3),?_,Zn2 g2 ⟨fun x hx=>?_,by simp⟩,by rw[List.length_set];exact e2⟩
    ·rw[List.map_set]
     exact IsDs.mono (Qs5 kk) (Zn6 (IsDs.mono (Qc0 s4) hu3) (Zg3 (Qr5 ht4 ntl)))
    ·rw[List.mem_singleton.mp hx]
     omega
   ·exact mJ _ _ ⟨_,_,_,_,_,us,b.2,rfl,s3,hlr3,hlc3,hd3,hu3,g2,e2⟩
  ·rintro σ' H4 ⟨o4,o5,o6,o7,o8,us',yss,rfl,s4,hlr4,hlc4,hd4,hu4,g4,l4⟩
   refine⟨_,rfl,lr,_,rfl,.inl ⟨SqL.of hlr4,fun t1 ht1=>?_⟩⟩
   have s5:Same H4 (upd H4 t1 (.tup ws)):=Qq5 ht1
   have ht1':(upd H4 t1 (.tup ws)) t1=some (.tup ws):=Qq1
   generalize upd H4 t1 (.tup ws)=H5 at s5 ht1' ⊢
   refine⟨_,rfl,lc,_,rfl,.inl ⟨SqL.of (s5 _ _ hlc4),fun t2 ht2=>?_⟩⟩
   have s6:Same H5 (upd H5 t2 (.tup us')):=Qq5 ht2
   have ht2':(upd H5 t2 (.tup us')) t2=some (.tup us'):=Qq1
   generalize upd H5 t2 (.tup us')=H6 at s6 ht2' ⊢
   refine⟨by show 2≤sizeLine;decide,fun t ht=>?_⟩
   have s7:Same H6 (upd H6 t (.tup [.ref t1,.ref t2])):=Qq5 ht
   have s47:Same (hide [lr,lc] H4) (upd H6 t (.tup [.ref t1,.ref t2])):=fun a o e=>s7 _ _ (s6 _ _ (s5 _ _ (Qt1 _ _ e)))
   exact k t (xss,yss) _ (s4.trans (s5.trans (s6.trans s7))) (Xy8 Qq1 (Zl1 (s7 _ _ (s6 _ _ ht1')) (IsDs.mono s47 hd4)) (Zl1 (s7 _ _ ht2') (IsDs.mono s47 hu4))) ⟨l3,l4,g3,g4⟩
end
section
variable {P:Program}{w:World}{K:PySem.W.Frag}{mg:Str→Option Value}{base:Heap}{C:Addr}
def Pvo (H0:Hp) (f:Nat→List Int) (i:Nat) (ys:List V) (H':Hp):Prop:=Same H0 H'∧∃as:List Addr,ys=as.map V.ref∧as.length=i∧(∀(j:Nat) b,as[j]?=some b→H' b=some (.lst ((f j).map V.int)))∧as.Nodup∧∀b∈as,H0 b=none∧H' b≠none
theorem Pvo.zero {H0:Hp}{f:Nat→List Int}:Pvo H0 f 0 [] H0:=⟨Same.refl _,[],rfl,rfl,fun j b e=>by simp at e,List.nodup_nil,fun b hb=>by simp at hb⟩
theorem Pvo.len {H0 H':Hp}{f:Nat→List Int}{i:Nat}{ys:List V} (p:Pvo H0 f i ys H'):ys.length=i:=by
 obtain⟨_,as,rfl,h,_⟩:=p
 rw[List.length_map,h]
theorem Same.some' {H H':Hp} (s:Same H H') {b:Addr} (h:H b≠none):H' b≠none:=by
 cases q:H b with
 | none=>exact absurd q h
 | some o=>rw[s _ _ q];exact fun z=>by cases z
theorem Pvo.next {H0 H1 H2:Hp}{f:Nat→List Int}{i:Nat}{ys:List V}{b:Addr} (p:Pvo H0 f i ys H1) (s:Same H1 H2) (hn:H1 b=none) (hb:H2 b=some (.lst ((f i).map V.int))):Pvo H0 f (i+1) (ys++[.ref b]) H2:=by
 obtain⟨s0,as,rfl,hl,hrow,hnd,hnew⟩:=p
 have nb:b∉as:=fun z=>(hnew b z).2 hn
 refine⟨s0.trans s,as++[b],by rw[List.map_append];rfl,by rw[List.length_append,List.length_singleton,hl],fun j c e=>?_,?_,fun c hc=>?_⟩
 ·by_cases hj:j<as.length
  ·rw[List.getElem?_append_left hj]at e
   exact s _ _ (hrow j c e)
  ·rw[List.getElem?_append_right (by omega)]at e
   have hj0:j-as.length=0:=by
    have:=(List.getElem?_eq_some_iff.mp e).1
    simp at this
    omega
   rw[hj0]at e
   have e':b=c:=Option.some.inj e
   subst e'
   have:j=i:=by omega
   rw[this]
   exact hb
 ·exact List.nodup_append.mpr ⟨hnd,by simp,fun x hx y hy=>by rw[List.mem_singleton.mp hy];intro z;exact nb (z▸hx)⟩
 ·rcases List.mem_append.mp hc with z|z
  ·exact⟨(hnew c z).1,Same.some' s (hnew c z).2⟩
  ·rw[List.mem_singleton.mp z]
   exact⟨s0.free hn,by rw[hb];exact fun q=>by cases q⟩
def Zz1:Sp:=fun vs H Q _=>∃(n:Nat),vs=[.int n]∧n≤8∧∀(l:Addr) (as:List Addr) (H':Hp),Own H H' l as (Qj1 n)→Q (.ref l) H'
theorem Qr4:FnScope ["size","found","turn","longer"] ["size"] (Qz0 Qc2):=⟨rfl,rfl,rfl,by decide +kernel,rfl,by decide +kernel,by decide +kernel⟩
theorem Xk2 {f:Addr}{fd:FuncData} (F:Fun K "_law_every" "_law_every" Qc2 f fd) (B:Bt mg):FnOk P w K mg base CX0 1 f fd ["size"] Zz1:=by
 refine F.ok Qr4 (fun vs H Q E h=>?_) (fun cdv A outer s H vs Q E hr h=>?_)
 ·obtain⟨n,rfl,_⟩:=h
  rfl
 ·obtain⟨n,rfl,hn,k⟩:=h
  refine⟨_,(Qq4 (Qz6 (i:=1) Qr4.nd rfl (Or.inl rfl) (Qv7 (Qq0 (Qv7 Qq3) Qq3)))
   (Qq4 (Qf3 PassesOwn.never rfl (Qy8 rfl B.range (Qq0 (pv 0) Qq3)) (Qx3 (i:=2) Qr4.nd rfl (Or.inl rfl))
   (Qq4 (Qf5 (i:=3) ["row"] [] Qr4.nd rfl rfl ⟨rfl,rfl,rfl,rfl,rfl⟩ rfl (Qw2 K (pv 1)) (fun _ _ _ _ _=>(Qx3 (i:=0) (show (["row"]:List Str).Nodup by decide +kernel) rfl (Or.inl rfl))) (fun _ _ _ _ _=>Qw5 (Qz7 Zy9 (Qv7 (Qq0 Qq6 Qq3)) (pv 0))))
   (Qq4 (Qh8 (Qs7 PySem.F.plainAttrs_list PySem.F.slot_list_extend PySem.F.type_list_extend Zf4 (pv 3) (Qq0 (Qp5 ["row"] [] ⟨rfl,rfl,rfl,rfl,rfl⟩ rfl (Qw2 K (pv 1)) (fun _ _ _ _ _=>(Qx3 (i:=0) (show (["row"]:List Str).Nodup by decide +kernel) rfl (Or.inl rfl))) (fun _ _ _ _ _=>Qw5 (Qz7 Zy9 (Qv7 (Qq0 Qq6 Qq3)) (pv 0)))) Qq3)))
   (Qq8 (Qz6 (i:=1) Qr4.nd rfl (Or.inl rfl) (pv 3))))))
   (Qq8 (Qz9 (pv 1))))),?_⟩
  refine⟨Nat.zero_le _,fun e0 he0=>?_⟩
  refine⟨by show 1≤sizeLine;decide,fun l0 hl0=>?_⟩
  have n0:e0≠l0:=fun z=>by rw[←z,Qq1]at hl0;cases hl0
  have hO0:Own H (upd (upd H e0 (.lst [])) l0 (.lst [.ref e0])) l0 [e0] (Qj1 0):=by
   refine⟨(Qq5 he0).trans (Qq5 hl0),Qq1,rfl,fun i a xs e1 e2=>?_,by simp,by simp;exact Ne.symm n0,fun a ha=>by rw[List.mem_singleton.mp ha];exact he0,(Qq5 he0).free hl0⟩
   match i,e1,e2 with
   | 0,e1,e2 =>
    cases e1
    cases e2
    rw[Qz1 n0,Qq1]
    rfl
  refine⟨_,rfl,_,rfl,by omega,by omega,Zw1 (lo:=0) (n:=((n:Int)).toNat) (fun i σ H4=>∃(l:Addr) (as:List Addr) (o2 o3:Option V),σ=[some (.int n),some (.ref l),o2,o3]∧Own H H4 l as (Qj1 i)) ⟨l0,[e0],none,none,rfl,hO0⟩ ?_ ?_⟩
  ·rintro i σ H4 hi ⟨l,as,o2,o3,rfl,O⟩
   have hal:=O.len
   rw[Qf8]at hal
   have h2i:2^i≤128:=by
    have:i≤7:=by omega
    calc 2^i≤2^7:=Nat.pow_le_pow_right (by decide) this
     _=128:=rfl
   have hvl:(as.map V.ref).length=2^i:=by rw[List.length_map,hal]
   have hrowl:∀(j:Nat) xs,(Qj1 i)[j]?=some xs→xs.length=i:=fun j xs e=>((Qf9 i xs).mp (List.mem_of_getElem? e)).1
   have turn:∀(b:Int) (H0 H1:Hp) (j:Nat) (x:V) (ys:List V),Same H4 H0→(as.map V.ref)[j]?=some x→Pvo H0 (fun j=>b::(Qj1 i).getD j []) j ys H1 →
     ∃a,x=.ref a∧∃xs,(Qj1 i)[j]?=some xs∧H1 a=some (.lst (xs.map V.int)):=fun b H0 H1 j x ys s0 hx p=>by
    rw[List.getElem?_map]at hx
    cases q:as[j]? with
    | none=>rw[q]at hx;cases hx
    | some a =>
     rw[q]at hx
     cases hx
     have hj:j<(Qj1 i).length:=by rw[←O.len];exact(List.getElem?_eq_some_iff.mp q).1
     refine⟨a,rfl,_,List.getElem?_eq_getElem hj,?_⟩
     exact p.1 _ _ (s0 _ _ (O.row j a _ q (List.getElem?_eq_getElem hj)))
   have hl4:=O.at'
   refine⟨_,rfl,l,rfl,⟨_,SqL.of hl4⟩,Qw0 (K:=K) (a:=l) (xs:=as.map V.ref) (Pvo H4 fun j=>0::(Qj1 i).getD j []) Pvo.zero ?_ ?_ ?_ ?_ ?_⟩
   ·exact Nat.le_of_lt (Qv4 (by omega))
   ·exact fun i ys H' p=>Nat.le_of_eq p.len
   ·exact fun i ys H' _ p=>SqL.of (p.1 _ _ hl4)
   ·intro j x ys H' hj p
    obtain⟨a,rfl,xs,hxs,ha⟩:=turn 0 H4 H' j x ys (Same.refl _) hj p
    refine⟨rfl,?_⟩
    refine⟨by show 1≤sizeLine;decide,fun z hz=>?_⟩
    have sz:Same H' (upd H' z (.lst [.int 0])):=Qq5 hz
    refine⟨_,rfl,z,a,_,_,rfl,rfl,Qq1,sz _ _ ha,(by have:=hrowl j xs hxs;have:=Qv4 (n:=9) (by omega);rw[List.length_map];show 1+xs.length≤_;omega),fun q hq=>?_⟩
    have hqn:H' q=none:=sz.free hq
    refine p.next (sz.trans (Qq5 hq)) hqn ?_
    rw[Qq1,Qz4 hxs]
    rfl
   ·intro ys1 H5 p5 l3 hl3
    have hl3n:=p5.1.free hl3
    have p6:Pvo H4 (fun j=>0::(Qj1 i).getD j []) (2^i) ys1 (upd H5 l3 (.lst ys1)):=by
     obtain⟨s0,as1,e,hl,hrow,hnd,hnew⟩:=p5
     rw[hvl]at hl
     exact⟨s0.trans (Qq5 hl3),as1,e,hl,fun j b e=>Qq5 hl3 _ _ (hrow j b e),hnd,fun b hb=>⟨(hnew b hb).1,Same.some' (Qq5 hl3) (hnew b hb).2⟩⟩
    have hn3:∀as1:List Addr,ys1=as1.map V.ref→l3∉as1:=fun as1 e z=>by
     obtain⟨s0,as2,e2,hl,hrow,hnd,hnew⟩:=p5
     have:as1=as2:=by
      rw[e]at e2
      exact List.map_inj_right (fun a b h=>by cases h;rfl) |>.mp e2
     rw[this]at z
     exact(hnew l3 z).2 hl3
    have hl3v:(upd H5 l3 (.lst ys1)) l3=some (.lst ys1):=Qq1
    generalize upd H5 l3 (.lst ys1)=H6 at p6 hl3v ⊢
    have s46:=p6.1
    refine⟨_,rfl,.inl ⟨rfl,_,SqL.of hl3v⟩,_,rfl,l,rfl,⟨_,SqL.of (s46 _ _ hl4)⟩,Qw0 (K:=K) (a:=l) (xs:=as.map V.ref) (Pvo H6 fun j=>1::(Qj1 i).getD j []) Pvo.zero ?_ ?_ ?_ ?_ ?_⟩
    ·exact Nat.le_of_lt (Qv4 (by omega))
    ·exact fun i ys H' p=>Nat.le_of_eq p.len
    ·exact fun i ys H' _ p=>SqL.of (p.1 _ _ (s46 _ _ hl4))
    ·intro j x ys H' hj p
     obtain⟨a,rfl,xs,hxs,ha⟩:=turn 1 H6 H' j x ys s46 hj p
     refine⟨rfl,?_⟩
     refine⟨by show 1≤sizeLine;decide,fun z hz=>?_⟩
     have sz:Same H' (upd H' z (.lst [.int 1])):=Qq5 hz
     refine⟨_,rfl,z,a,_,_,rfl,rfl,Qq1,sz _ _ ha,(by have:=hrowl j xs hxs;have:=Qv4 (n:=9) (by omega);rw[List.length_map];show 1+xs.length≤_;omega),fun q hq=>?_⟩
     have hqn:H' q=none:=sz.free hq
     refine p.next (sz.trans (Qq5 hq)) hqn ?_
     rw[Qq1,Qz4 hxs]
     rfl
    ·intro ys2 H7 p7 l4 hl4'
     have p8:=p7
     obtain⟨s67,as2,e2,hl2,hrow2,hnd2,hnew2⟩:=p7
     obtain⟨_,as1,e1,hl1,hrow1,hnd1,hnew1⟩:=p6
     have hn3':=hn3 as1 e1
     have h3H7:H7 l3=some (.lst ys1):=s67 _ _ hl3v
     have n34:l3≠l4:=fun z=>by rw[←z,h3H7]at hl4';cases hl4'
     have h38:(upd H7 l4 (.lst ys2)) l3=some (.lst ys1):=by rw[Qz1 n34];exact h3H7
     refine⟨l3,l4,_,_,rfl,rfl,h38,Qq1,(by have:=Qv4 (n:=300) (by omega);rw[e1,e2,List.length_map,List.length_map,hl1,hl2,hvl];omega),?_⟩
     refine⟨_,rfl,l3,as1++as2,_,_,rfl,?_⟩
     have s8:Same H7 (upd H7 l4 (.lst ys2)):=Qq5 hl4'
     have h3in:∀b∈as2,b≠l3:=fun b hb z=>by
      have:=(hnew2 b hb).1
      rw[z,hl3v]at this
      cases this
     have h1in:∀b∈as1,b≠l3:=fun b hb z=>hn3' (z▸hb)
     have sAll:Same H4 (upd (upd H7 l4 (.lst ys2)) l3 (.lst (ys1++ys2))):=Qw6 ((s46.trans s67).trans s8) hl3n
     refine⟨O.same.trans sAll,by rw[Qq1,e1,e2,List.map_append],?_,fun j a xs q1 q2=>?_,?_,?_,fun a ha=>?_,O.same.free hl3n⟩
     ·rw[List.length_append,hl1,hl2,hvl,Qf8,Nat.pow_succ];omega
     ·unfold Qj1 at q2
      by_cases hj:j<as1.length
      ·rw[List.getElem?_append_left hj]at q1
       rw[List.getElem?_append_left (by rw[List.length_map,Qf8,←hl1];exact hj),List.getElem?_map]at q2
       rw[Qz1 (h1in a (List.mem_of_getElem? q1)),s8 _ _ (s67 _ _ (hrow1 j a q1))]
       cases q:(Qj1 i)[j]? with
       | none=>rw[q]at q2;cases q2
       | some ws=>rw[q]at q2;cases q2;show some (HO.lst ((0::(Qj1 i).getD j []).map V.int))=_;rw[Qz4 q]
      ·rw[List.getElem?_append_right (by omega)]at q1
       rw[List.getElem?_append_right (by rw[List.length_map,Qf8,←hl1];omega),List.getElem?_map,List.length_map,Qf8,←hl1]at q2
       rw[Qz1 (h3in a (List.mem_of_getElem? q1)),s8 _ _ (hrow2 _ a q1)]
       cases q:(Qj1 i)[j-as1.length]? with
       | none=>rw[q]at q2;cases q2
       | some ws=>rw[q]at q2;cases q2;show some (HO.lst ((1::(Qj1 i).getD (j-as1.length) []).map V.int))=_;rw[Qz4 q]
     ·refine List.nodup_append.mpr ⟨hnd1,hnd2,fun x hx y hy z=>?_⟩
      have h1:=(hnew2 y hy).1
      have h2:=(hnew1 x hx).2
      rw[z]at h2
      exact h2 h1
     ·intro z
      rcases List.mem_append.mp z with z|z
      ·exact hn3' z
      ·exact h3in l3 z rfl
     ·rcases List.mem_append.mp ha with z|z
      ·exact O.same.free (hnew1 a z).1
      ·exact O.same.free (s46.free (hnew2 a z).1)
  ·rintro σ H4 ⟨l,as,o2,o3,rfl,O⟩
   have e:((n:Int)).toNat=n:=by omega
   rw[e]at O
   exact⟨_,rfl,k l as H4 O⟩
end
section
variable {P:Program}{w:World}{K:PySem.W.Frag}{mg:Str→Option Value}{base:Heap}{C:Addr}
def Qs2:Sp:=fun vs H Q _=>∃(tr ls:Addr) (rs:List Nat) (s:Qj5),vs=[.ref tr,.ref ls]∧H tr=some (.tup (Qy0 rs))∧H ls=some (.lst (Qj4 s))∧s.length≤8∧(∀k∈rs,1≤k)∧Qd6 s∧∀(l:Addr) (as:List Addr) (H':Hp),Own H H' l as (layL rs s)→Q (.ref l) H'
def Qc7 (s:Qj5) (c:List Int) (i:Nat):List Nat:=(List.range i).filter fun j=>!(Qa3 (s.getD j none) (c.getD j 0))
theorem Xt4 {s:Qj5}{c:List Int} (h:c.length=s.length):decide (Qc7 s c s.length=[])=Qh7 s c:=by
 rw[Zb9]
 unfold Qc7
 rw[Bool.eq_iff_iff,decide_eq_true_eq,List.filter_eq_nil_iff,List.all_eq_true]
 constructor
 ·intro q x hx
  obtain⟨i,hi,rfl⟩:=List.mem_iff_getElem.mp hx
  rw[List.length_zipWith]at hi
  have:=q i (List.mem_range.mpr (by omega))
  rw[List.getElem_zipWith]
  rw[Qz4 (List.getElem?_eq_getElem (by omega)),Qz4 (List.getElem?_eq_getElem (by omega))]at this
  simpa using this
 ·intro q i hi
  have hi:=List.mem_range.mp hi
  have h2:i<(List.zipWith Qa3 s c).length:=by rw[List.length_zipWith];omega
  have:=q _ (List.getElem_mem h2)
  rw[List.getElem_zipWith]at this
  rw[Qz4 (List.getElem?_eq_getElem (by omega)),Qz4 (List.getElem?_eq_getElem (by omega))]
  simpa using this
theorem Yy2 {x:Option Int}{z:Int}:(!decide (vO x=V.non)&&!decide (vO x=V.int z))=!(Qa3 x z):=by
 unfold Qa3
 rw[Yb5,Ym4]
 cases decide (x=none)<;>cases decide (x=some z)<;>rfl
theorem Yy3 {H0 H:Hp}{l:Addr}{as:List Addr}{xss:List (List Int)}{b:Addr}{xs:List Int} (O:Own H0 H l as xss) (hb:H b=some (.lst (xs.map V.int))) (hn:b∉as) (hl:b≠l) (h0:H0 b=none):Own H0 (upd H l (.lst (as.map V.ref++[.ref b]))) l (as++[b]) (xss++[xs]):=by
 refine⟨Qw6 O.same O.newl,by rw[Qq1,List.map_append];rfl,by rw[List.length_append,List.length_append,O.len];rfl,fun i a ys e1 e2=>?_,?_,?_,fun a ha=>?_,O.newl⟩
 ·by_cases hi:i<as.length
  ·rw[List.getElem?_append_left hi]at e1
   rw[List.getElem?_append_left (by rw[←O.len];exact hi)]at e2
   have:a≠l:=fun z=>O.nl (by rw[←z];exact List.mem_of_getElem? e1)
   rw[Qz1 this]
   exact O.row i a ys e1 e2
  ·rw[List.getElem?_append_right (by omega)]at e1
   rw[List.getElem?_append_right (by rw[←O.len];omega),←O.len]at e2
   have h0:i-as.length=0:=by
    have:=(List.getElem?_eq_some_iff.mp e1).1
    simp at this
    omega
   rw[h0]at e1 e2
   cases e1
   cases e2
   rw[Qz1 hl]
   exact hb
 ·exact List.nodup_append.mpr ⟨O.nd,by simp,fun x hx y hy=>by rw[List.mem_singleton.mp hy];intro z;exact hn (z▸hx)⟩
 ·intro z
  rcases List.mem_append.mp z with q|q
  ·exact O.nl q
  ·exact hl (List.mem_singleton.mp q).symm
 ·rcases List.mem_append.mp ha with q|q
  ·exact O.new a q
  ·rw[List.mem_singleton.mp q];exact h0
theorem Qs3:FnScope ["runs","sight","found","cells","wrong"] ["runs","sight"] (Qz0 Qm7):=⟨rfl,rfl,rfl,by decide +kernel,rfl,by decide +kernel,by decide +kernel⟩
theorem Zo5 {f:Addr}{fd:FuncData} (F:Fun K "_law_fitting" "_law_fitting" Qm7 f fd) (B:Bt mg) (c__law_every:Callee P w K mg base CX0 "_law_every" 1 ["size"] Zz1) (c__law_runs:Callee P w K mg base CX0 "_law_runs" 1 ["cells"] Qa0):FnOk P w K mg base CX0 2 f fd ["runs","sight"] Qs2:=by
 refine F.ok Qs3 (fun vs H Q E h=>?_) (fun cdv A outer s H vs Q E hr h=>?_)
 ·obtain⟨tr,ls,rs,s,rfl,_⟩:=h
  rfl
 ·obtain⟨tr,ls,rs,sg,rfl,htr,hls,hn,hrk,hsp,k⟩:=h
  have hu:=Qt0 hr
  refine⟨_,(Qq4 (Qz6 (i:=2) Qs3.nd rfl (Or.inl rfl) (Qv7 Qq3))
   (Qq4 (Qf3 PassesOwn.never rfl (Qw2 K (Qj6 c__law_every hr (Qq0 (Qx0 (Qx5 K) rfl B.len Qj3 (Qq0 (pv 1) Qq3)) Qq3))) (Qx3 (i:=3) Qs3.nd rfl (Or.inr rfl))
   (Qq4 (Qf5 (i:=4) ["at"] [1,3] Qs3.nd rfl rfl ⟨rfl,rfl,rfl,rfl,rfl⟩ rfl (Qy8 rfl B.range (Qq0 (Qx0 (Qx5 K) rfl B.len Qj3 (Qq0 (pv 1) Qq3)) Qq3)) (fun _ _ _ _ _=>(Qx3 (i:=0) (show (["at","sight","cells"]:List Str).Nodup by decide +kernel) rfl (Or.inl rfl))) (fun _ _ _ _ _=>Xw5 (PW.pt (Xv5 (Qz8 Xp5 (Qx1 (Qk0 K) (pv 1) (pv 0) (fun _ _=>rfl)) Qg4 (Qx2 _)) (Zo9 (Qz8 Qt6 (Qx1 (Qk0 K) (pv 1) (pv 0) (fun _ _=>rfl)) (Qx1 (Qk0 K) (pv 2) (pv 0) (fun _ _=>rfl)) (Qx2 _))))) (pv 0)))
   (Qq8 (Qk1 (PW.pt (Xv5 (Qz8 (Zg1 hu) (pv 4) (Qv7 Qq3) (Qx2 _)) (Zo9 (Qz8 (Zg1 hu) (Qj6 c__law_runs hr (Qq0 (pv 3) Qq3)) (pv 0) (Qx2 _)))))
   (Qq8 (Qh8 (Qs7 PySem.F.plainAttrs_list PySem.F.slot_list_append PySem.F.type_list_append Qd3 (pv 2) (Qq0 (pv 3) Qq3))))
   Qx8))))
   (Qq8 (Qz9 (pv 2))))),?_⟩
  have hsl:(Qj4 sg).length=sg.length:=by unfold Qj4;rw[List.length_map]
  refine⟨Nat.zero_le _,fun lf hlf=>?_⟩
  have s1:Same H (upd H lf (.lst [])):=Qq5 hlf
  have hf1:(upd H lf (.lst [])) lf=some (.lst []):=Qq1
  have hO1:Own H (upd H lf (.lst [])) lf [] []:=⟨s1,hf1,rfl,fun i a xs e1 e2=>by simp at e1,List.nodup_nil,by simp,fun a ha=>by simp at ha,hlf⟩
  generalize upd H lf (.lst [])=H1 at s1 hf1 hO1 ⊢
  refine⟨_,rfl,ls,_,rfl,.inl (SqL.of (s1 _ _ hls)),sg.length,(by rw[hsl];rfl),hn,fun le ae H2 OE=>?_⟩
  have hael:=OE.len
  rw[Qf8]at hael
  have h2n:2^sg.length≤256:=by
   calc 2^sg.length≤2^8:=Nat.pow_le_pow_right (by decide) hn
    _=256:=rfl
  have hle:=OE.at'
  refine⟨le,rfl,⟨_,SqL.of hle⟩,Zc9 (K:=K) (a:=le) (xs:=ae.map V.ref) (fun i σ H3=>∃(as:List Addr) (o3 o4:Option V),σ=[some (.ref tr),some (.ref ls),some (.ref lf),o3,o4]∧Own H H3 lf as (((Qj1 sg.length).take i).filter (fitB rs sg))∧(∀a∈as,a∈ae.take i)∧(∀x o,H2 x=some o→x≠lf→H3 x=some o))
   ⟨[],none,none,rfl,?_,by simp,fun x o h _=>h⟩ ?_ ?_ ?_⟩
  ·obtain⟨q1,q2,q3,q4,q5,q6,q7,q8⟩:=hO1
   exact⟨q1.trans OE.same,OE.same _ _ q2,q3,fun i a xs e1 e2=>by simp at e1,q5,q6,q7,q8⟩
  ·rintro i σ H3 _ ⟨as,o3,o4,rfl,O,hsub,hkeep⟩
   exact SqL.of (hkeep _ _ hle (fun z=>by have:=OE.newl;rw[z,hf1]at this;cases this))
  ·rintro i x σ H3 hi ⟨as,o3,o4,rfl,O,hsub,hkeep⟩
   rw[List.getElem?_map]at hi
   obtain⟨b,hb,rfl⟩:∃b,ae[i]?=some b∧x=.ref b:=by
    cases q:ae[i]? with
    | none=>rw[q]at hi;cases hi
    | some b=>rw[q]at hi;cases hi;exact⟨b,rfl,rfl⟩
   have hil:i<(Qj1 sg.length).length:=by rw[←OE.len];exact(List.getElem?_eq_some_iff.mp hb).1
   obtain⟨c,hc⟩:∃c,(Qj1 sg.length)[i]?=some c:=⟨_,List.getElem?_eq_getElem hil⟩
   obtain⟨hcl,hcb⟩:=(Qf9 _ c).mp (List.mem_of_getElem? hc)
   have hbn:b≠lf:=fun z=>by have:=OE.new b (List.mem_of_getElem? hb);rw[z,hf1]at this;cases this
   have hb3:H3 b=some (.lst (c.map V.int)):=hkeep _ _ (OE.row i b c hb hc) hbn
   have hls3:=O.same _ _ hls
   have htr3:=O.same _ _ htr
   refine⟨_,rfl,ls,_,rfl,.inl (SqL.of hls3),(sg.length:Int),(by rw[hsl]),by omega,by omega,Zz7 (fun j ys H4=>H4=H3∧ys=(Qc7 sg c j).map fun q:Nat=>V.int (q:Nat)) ⟨rfl,rfl⟩ ?_ ?_ ?_ ?_⟩
   ·exact Nat.le_of_lt (Qv4 (by omega))
   ·rintro j ys H4 ⟨_,rfl⟩
    rw[List.length_map]
    unfold Qc7
    refine Nat.le_trans (List.length_filter_le _ _) ?_
    rw[List.length_range]
    exact Nat.le_refl _
   ·rintro j ys H4 hj ⟨rfl,rfl⟩
    have e0:(0:Int)+(j:Nat)=(j:Nat):=Int.zero_add _
    rw[e0]
    have hj':j<sg.length:=by omega
    have hcg:(c.map V.int)[j]?=some (.int (c.getD j 0)):=by
     rw[List.getElem?_map,List.getElem?_eq_getElem (by omega),Qz4 (List.getElem?_eq_getElem (by omega:j<c.length))]
     rfl
    have hsg:sg[j]=sg.getD j none:=(Qz4 (List.getElem?_eq_getElem hj')).symm
    refine⟨rfl,?_⟩
    refine⟨_,rfl,_,rfl,ls,_,_,vO sg[j],rfl,rfl,SqL.of hls3,Qx7 (Zb4 hj'),rfl,_,rfl,?_⟩
    have hstep:Qc7 sg c (j+1)=Qc7 sg c j++(if (!(Qa3 (sg.getD j none) (c.getD j 0)))=true then [j] else []):=by
     unfold Qc7
     rw[List.range_succ,List.filter_append]
     congr 1
     rw[List.filter_cons]
     split<;>rfl
    rw[hsg]
    have hkf:=Yy2 (x:=sg.getD j none) (z:=c.getD j 0)
    cases q1:decide (vO (sg.getD j none)=V.non) with
    | true =>
     refine iteF (iteF ⟨rfl,?_⟩)
     rw[q1]at hkf
     rw[hstep,←hkf]
     simp
    | false =>
     refine iteT ⟨_,rfl,_,rfl,ls,_,_,vO sg[j],rfl,rfl,SqL.of hls3,Qx7 (Zb4 hj'),_,rfl,_,rfl,b,_,_,.int (c.getD j 0),rfl,rfl,SqL.of hb3,Qx7 hcg,Yw1,_,rfl,?_⟩
     rw[hsg]
     cases q2:decide (vO (sg.getD j none)=V.int (c.getD j 0)) with
     | true =>
      refine iteF ⟨rfl,?_⟩
      rw[q1,q2]at hkf
      rw[hstep,←hkf]
      simp
     | false =>
      refine iteT ⟨_,rfl,rfl,?_⟩
      rw[q1,q2]at hkf
      rw[hstep,←hkf]
      simp
   ·rintro ys H4 ⟨rfl,rfl⟩ lw hlw
    have hnn:((sg.length:Int)).toNat=sg.length:=by omega
    rw[hnn]
    have s4:Same H4 (upd H4 lw (.lst ((Qc7 sg c sg.length).map fun q:Nat=>V.int (q:Nat)))):=Qq5 hlw
    have hw4:(upd H4 lw (.lst ((Qc7 sg c sg.length).map fun q:Nat=>V.int (q:Nat)))) lw=some (.lst (((Qc7 sg c sg.length).map fun q:Nat=>((q:Nat):Int)).map V.int)):=by rw[Qq1,List.map_map];rfl
    generalize upd H4 lw (.lst ((Qc7 sg c sg.length).map fun q:Nat=>V.int (q:Nat)))=H5 at s4 hw4 ⊢
    have O5:∀{H6:Hp},Same H4 H6→Own H H6 lf as (((Qj1 sg.length).take i).filter (fitB rs sg)):=fun {H6} s=>⟨O.same.trans s,s _ _ O.at',O.len,fun i a xs e1 e2=>s _ _ (O.row i a xs e1 e2),O.nd,O.nl,O.new,O.newl⟩
    have hstep:((Qj1 sg.length).take (i+1)).filter (fitB rs sg)=((Qj1 sg.length).take i).filter (fitB rs sg)++(if fitB rs sg c=true then [c] else []):=by
     rw[List.take_add_one,hc,List.filter_append]
     congr 1
     show List.filter _ [c]=_
     rw[List.filter_cons]
     split<;>rfl
    have hsub':∀a∈as,a∈ae.take (i+1):=fun a ha=>by rw[List.take_add_one];exact List.mem_append_left _ (hsub a ha)
    have no:∀{H6:Hp}{o4':Option V},Same H4 H6→fitB rs sg c=false→∃(as':List Addr) (o3' o4'':Option V),([some (.ref tr),some (.ref ls),some (.ref lf),some (.ref b),o4']:St)=[some (.ref tr),some (.ref ls),some (.ref lf),o3',o4'']∧Own H H6 lf as' (((Qj1 sg.length).take (i+1)).filter (fitB rs sg))∧(∀a∈as',a∈ae.take (i+1))∧(∀x o,H2 x=some o→x≠lf→H6 x=some o):=fun {H6 o4'} s hfit=>by
     refine⟨as,_,_,rfl,?_,hsub',fun x o h hx=>s _ _ (hkeep x o h hx)⟩
     rw[hstep,hfit]
     simp only[Bool.false_eq_true,if_false,List.append_nil]
     exact O5 s
    refine⟨_,rfl,Nat.zero_le _,fun e0 he0=>?_⟩
    have s5:Same H5 (upd H5 e0 (.lst [])):=Qq5 he0
    refine⟨dRow ((Qc7 sg c sg.length).map fun q:Nat=>((q:Nat):Int)),dRow [],Qu9 (s5 _ _ hw4),Qu9 (by rw[Qq1];rfl),rfl,rfl,Nat.le_trans (Zw5 _) (by decide),_,rfl,?_⟩
    generalize upd H5 e0 (.lst [])=H6 at s5 ⊢
    have s46:=s4.trans s5
    have hwe:eqD (dRow ((Qc7 sg c sg.length).map fun q:Nat=>((q:Nat):Int))) (dRow [])=Qh7 sg c:=by
     rw[Xm0,←Xt4 hcl]
     congr 1
     exact propext List.map_eq_nil_iff
    rw[hwe]
    cases hkb:Qh7 sg c with
    | false =>
     refine iteF (iteF (no s46 ?_))
     unfold fitB
     rw[hkb]
     rfl
    | true =>
     refine iteT ⟨_,rfl,b,c,rfl,s46 _ _ hb3,by omega,fun t H7 s7 nt ht=>?_⟩
     have s47:=s46.trans s7
     refine⟨_,rfl,dTup (Qk2 c),dTup (Qw3 rs),Zg3 ht,Zg3 (by rw[←Yw3];exact s47 _ _ htr3),rfl,rfl,Nat.le_trans (Xx0 _) (by decide),_,rfl,?_⟩
     rw[Xf9]
     by_cases hrz:Qk2 c=Qw3 rs
     ·rw[decide_eq_true hrz]
      have hfit:fitB rs sg c=true:=by unfold fitB;rw[hkb,decide_eq_true hrz];rfl
      have O7:=O5 s47
      have hasl:as.length≤256:=by
       rw[O.len]
       refine Nat.le_trans (List.length_filter_le _ _) ?_
       rw[List.length_take,Qf8]
       omega
      refine iteT ⟨_,rfl,.inl ⟨rfl,_,SqL.of O7.at'⟩,_,rfl,lf,_,_,rfl,rfl,O7.at',Qv4 (by rw[List.length_map];omega),?_⟩
      have hbas:b∉as:=fun z=>by
       have hz:=hsub b z
       obtain⟨j,hj,e⟩:=List.mem_iff_getElem.mp hz
       rw[List.length_take]at hj
       rw[List.getElem_take]at e
       have:j=i:=Zq0 OE.nd (by rw[List.getElem?_eq_getElem (by omega),e]) hb
       omega
      have hb0:H b=none:=s1.free (OE.new b (List.mem_of_getElem? hb))
      refine⟨as++[b],_,_,rfl,?_,fun a ha=>?_,fun x o h hx=>?_⟩
      ·rw[hstep,hfit]
       exact Yy3 O7 (s47 _ _ hb3) hbas hbn hb0
      ·rcases List.mem_append.mp ha with z|z
       ·exact hsub' a z
       ·rw[List.mem_singleton.mp z,List.take_add_one,hb]
        exact List.mem_append_right _ (List.mem_singleton.mpr rfl)
      ·rw[Qz1 hx]
       exact s47 _ _ (hkeep x o h hx)
     ·rw[decide_eq_false hrz]
      refine iteF (no s47 ?_)
      unfold fitB
      rw[decide_eq_false hrz,Bool.and_false]
  ·rintro σ H3 ⟨as,o3,o4,rfl,O,hsub,hkeep⟩
   have e:(ae.map V.ref).length=(Qj1 sg.length).length:=by rw[List.length_map,OE.len]
   rw[e,List.take_length,Yw2 hrk hsp]at O
   exact⟨_,rfl,k lf as H3 O⟩
end
section
variable {P:Program}{w:World}{K:PySem.W.Frag}{mg:Str→Option Value}{base:Heap}{C:Addr}
theorem Yz6 {H:Hp}{ds es:List Dt}{xs ys:List V} (h1:IsDs H ds xs) (h2:IsDs H es ys):IsDs H (ds++es) (xs++ys):=by
 have l1:=h1.length
 have l2:=h2.length
 refine Ql2 (by rw[List.length_append,List.length_append,l1,l2]) fun i d x e1 e2=>?_
 by_cases hi:i<ds.length
 ·rw[List.getElem?_append_left hi]at e1
  rw[List.getElem?_append_left (by omega)]at e2
  obtain⟨y,q1,q2⟩:=h1.get e1
  rw[q1]at e2;cases e2;exact q2
 ·rw[List.getElem?_append_right (by omega)]at e1 e2
  rw[←l1]at e2
  obtain⟨y,q1,q2⟩:=h2.get e1
  rw[q1]at e2;cases e2;exact q2
theorem Ql4 (H:Hp):IsDs H [] []:=by unfold IsDs;rfl
theorem Xt5 {H:Hp}{xss:List (List Int)}{v:V} (h:IsD H (Qk6 xss) v):∃a vs,v=.ref a∧H a=some (.lst vs)∧IsDs H (xss.map dRow) vs:=by
 unfold Qk6 IsD at h
 exact h
end
section
theorem Xt6 {H0 H:Hp}{lr a:Addr}{as:List Addr}{v:View} (o:OwnV H0 H lr as (v.map Qj4)) {i j:Nat}{x:Option Int} (e:as[i]?=some a):OwnV H0 (upd H a (.lst ((Qj4 (v.getD i [])).set j (vO x)))) lr as ((setC v i j x).map Qj4):=by
 have q:=o.setRow e ((Qj4 (v.getD i [])).set j (vO x))
 have e2:(v.map Qj4).set i ((Qj4 (v.getD i [])).set j (vO x))=(setC v i j x).map Qj4:=by
  unfold setC
  rw[List.map_set]
  unfold Qj4
  rw[List.map_set]
 rw[e2]at q
 exact q
theorem Yz7 {H0 H:Hp}{lr:Addr}{as:List Addr}{v:View} (o:OwnV H0 H lr as (v.map Qj4)) {i:Nat} (hi:i<v.length):∃a,as[i]?=some a∧H a=some (.lst (Qj4 (v.getD i []))):=by
 have hl:i<as.length:=by have:=o.len;rw[List.length_map]at this;omega
 refine⟨as[i],List.getElem?_eq_getElem hl,o.row i _ _ (List.getElem?_eq_getElem hl) ?_⟩
 rw[List.getElem?_map,List.getElem?_eq_getElem hi,Qz4 (List.getElem?_eq_getElem hi)]
 rfl
end
section
theorem Xb7 {s:Qj5}{p:Nat} (h:p<s.length):(Qj4 s)[p]?=some (vO (s.getD p none)):=by rw[Zb4 h,Qz4 (List.getElem?_eq_getElem h)]
end
section
variable {P:Program}{w:World}{K:PySem.W.Frag}{mg:Str→Option Value}{base:Heap}{C:Addr}
def Qi4:Sp:=fun vs H Q _=>∃(lr:Addr) (v:View) (h wd:Nat) (l:Nat×Nat),vs=[.ref lr,.int (l.1:Nat),.int (l.2:Nat)]∧IsD H (Qe4 v) (.ref lr)∧VOk h wd v∧h≤100∧LOk h wd l∧∀a H',Same H H'→H a=none→H' a=some (.lst (Qj4 (Qq7 v l.1 l.2)))→Q (.ref a) H'
theorem Xk3:FnScope ["rows","side","at"] ["rows","side","at"] (Qz0 Qc4):=⟨rfl,rfl,rfl,by decide +kernel,rfl,by decide +kernel,by decide +kernel⟩
theorem Xk4 {f:Addr}{fd:FuncData} (F:Fun K "_law_sight" "_law_sight" Qc4 f fd) (B:Bt mg):FnOk P w K mg base CX0 1 f fd ["rows","side","at"] Qi4:=by
 refine F.ok Xk3 (fun vs H Q E h=>?_) (fun cdv A outer s H vs Q E hr h=>?_)
 ·obtain⟨lr,v,h,wd,l,rfl,_⟩:=h
  rfl
 ·obtain⟨lr,v,h,wd,⟨sd,n⟩,rfl,hd,vo,hh,hl,k⟩:=h
  refine⟨_,(Qq4 (Qk1 (Qz8 Qb5 (pv 1) Qq6 (Qx2 _))
   (Qq8 (Qz9 (Qv0 (Qb6 K) rfl B.list Qm4 (Qq0 (Qx1 (Qk0 K) (pv 0) (pv 2) (fun _ _=>rfl)) Qq3))))
   Qx8)
   (Qq8 (Qz9 (Qp5 ["row"] [2] ⟨rfl,rfl,rfl,rfl,rfl⟩ rfl (Qw2 K (pv 0)) (fun _ _ _ _ _=>(Qx3 (i:=0) (show (["row","at"]:List Str).Nodup by decide +kernel) rfl (Or.inl rfl))) (fun _ _ _ _ _=>Qw5 (Qx1 (Qk0 K) (pv 0) (pv 1) (fun _ _=>rfl))))))),?_⟩
  obtain⟨us,hus,hud⟩:=Xg0 hd
  have hul:=Zj6 hud
  have hvl:=vo.len
  refine⟨_,rfl,rfl,_,rfl,?_⟩
  rcases hl with ⟨h1,h2⟩|⟨h1,h2⟩
  ·replace h1:sd=0:=h1
   replace h2:n<h:=h2
   subst h1
   refine iteT ?_
   have hi':n<v.length:=by omega
   obtain⟨x,hx,hxd⟩:=Xg1 (f:=Qr3) hud (List.getElem?_eq_getElem hi')
   obtain⟨ra,rfl,hra⟩:=Zq1 hxd
   refine⟨_,rfl,_,rfl,lr,_,_,.ref ra,rfl,rfl,SqL.of hus,Qx7 hx,ra,_,rfl,.inl (SqL.of hra),fun l hl=>?_⟩
   refine k l _ (Qq5 hl) hl ?_
   rw[Qq1]
   unfold Qq7
   rw[if_pos rfl,Qz4 (List.getElem?_eq_getElem hi')]
  ·replace h1:sd=1:=h1
   replace h2:n<wd:=h2
   subst h1
   refine iteF ?_
   refine⟨_,rfl,lr,rfl,⟨_,SqL.of hus⟩,Qw0 (K:=K) (a:=lr) (xs:=us) (fun j ys H3=>H3=H∧ys=(v.take j).map fun s=>vO (s.getD n none)) ⟨rfl,rfl⟩ ?_ ?_ ?_ ?_ ?_⟩
   ·exact Nat.le_of_lt (Qv4 (by omega))
   ·rintro j ys H3 ⟨_,rfl⟩
    rw[List.length_map,List.length_take]
    omega
   ·rintro j ys H3 _ ⟨rfl,_⟩
    exact SqL.of hus
   ·rintro j y ys H3 hj ⟨rfl,rfl⟩
    obtain⟨sg,hsg,hsd⟩:=Zv1 hud hj
    obtain⟨a,rfl,ha⟩:=Zq1 hsd
    have hw:=vo.wid sg (List.mem_of_getElem? hsg)
    refine⟨rfl,?_⟩
    refine⟨_,rfl,_,rfl,a,_,_,_,rfl,rfl,SqL.of ha,Qx7 (Xb7 (by omega)),?_⟩
    refine⟨rfl,?_⟩
    rw[List.take_add_one,hsg,List.map_append]
    rfl
   ·rintro ys H3 ⟨rfl,rfl⟩ l hl'
    rw[hul,List.take_length]
    refine k l _ (Qq5 hl') hl' ?_
    rw[Qq1]
    unfold Qq7 Qj4
    rw[if_neg (show ¬(1:Nat)=0 by decide),List.map_map]
    rfl
end
section
variable {P:Program}{w:World}{K:PySem.W.Frag}{mg:Str→Option Value}{base:Heap}{C:Addr}
def Zz2:Sp:=fun vs H Q _=>∃(i:Int),vs=[.int i]∧Q (.bl true) H
theorem Xk5:FnScope ["x"] ["x"] (Qz0 Qc1):=⟨rfl,rfl,rfl,by decide +kernel,rfl,by decide +kernel,by decide +kernel⟩
theorem Xk6 {f:Addr}{fd:FuncData} (F:Fun K "_law_whole" "_law_whole" Qc1 f fd) (B:Bt mg):FnOk P w K mg base CX0 1 f fd ["x"] Zz2:=by
 refine F.ok Xk5 (fun vs H Q E h=>?_) (fun cdv A outer s H vs Q E hr h=>?_)
 ·obtain⟨x,rfl,_⟩:=h
  rfl
 ·obtain⟨i,rfl,k⟩:=h
  refine⟨_,(Qq8 (Qz9 (Xv7 (Qx0 Zw9 rfl B.isinstance Qu8 (Qq0 (pv 0) (Qq0 (Zj0 (v:=.ty "int") rfl B.int Xw7 rfl) Qq3))) (Xv6 (Yg2 (Qx0 Zw9 rfl B.isinstance Qu8 (Qq0 (pv 0) (Qq0 (Zj0 (v:=.ty "bool") rfl B.bool Yk6 rfl) Qq3)))))))),?_⟩
  refine⟨_,rfl,_,_,_,true,rfl,fun _ z=>z,.int i,rfl,_,rfl,iteT ?_⟩
  exact⟨_,rfl,_,_,_,false,rfl,fun _ z=>z,.int i,rfl,_,rfl,k⟩
theorem Xt7 {h wd:Nat}{b:Brd}{p:List (List Int)} (ob:BOk h wd b) (f:FitP h wd b p):Qe9 p wd=b:=by
 have r:=ob.rows
 have c:=ob.cols
 unfold Qe9
 refine Prod.ext ?_ ?_
 ·refine Zn4 (d:=[]) (by rw[List.length_map,f.ok.len,r]) fun i hi=>?_
  rw[List.length_map,f.ok.len]at hi
  have hl:LOk h wd (0,i):=.inl ⟨rfl,hi⟩
  have:=f.run (0,i) hl
  rw[Qt3 ob hl]at this
  have e:Qk2 (p.getD i [])=b.1.getD i []:=this
  rw[←e]
  show (p.map Qk2).getD i []=_
  rw[Qz4 (x:=Qk2 (p.getD i [])) (by rw[List.getElem?_map,(f.ok.row hi).1];rfl)]
 ·refine Zn4 (d:=[]) (by rw[List.length_map,List.length_range,c]) fun j hj=>?_
  rw[List.length_map,List.length_range]at hj
  have hl:LOk h wd (1,j):=.inr ⟨rfl,hj⟩
  have:=f.run (1,j) hl
  rw[Qt3 ob hl]at this
  have e:Qk2 (colZ p j)=b.2.getD j []:=this
  rw[←e]
  show ((List.range wd).map fun j=>Qk2 (colZ p j)).getD j []=_
  rw[Qz4 (x:=Qk2 (colZ p j)) (by rw[List.getElem?_map,List.getElem?_range hj];rfl)]
theorem Zy3 (b:Brd):Qy5 (Qv8 b)≤3:=by
 have h1:=Zx0 b.1
 have h2:=Zx0 b.2
 unfold Qv8
 rw[Qi9]
 simp only[Qv1]
 omega
def Qp3:Sp:=fun vs H Q _=>∃(fa tb:Addr) (p:List (List Int)) (b:Brd) (h wd:Nat),vs=[.ref fa,.ref tb]∧IsD H (Qk6 p) (.ref fa)∧IsD H (Qv8 b) (.ref tb)∧FitP h wd b p∧BOk h wd b∧1≤h∧h≤4∧wd≤4∧∀H',Same H H'→Q (.bl true) H'
theorem Qs6:FnScope ["found","board","row","cell"] ["found","board"] (Qz0 Qh3):=⟨rfl,rfl,rfl,by decide +kernel,rfl,by decide +kernel,by decide +kernel⟩
theorem Zd5 {f:Addr}{fd:FuncData} (F:Fun K "_law_is_picture" "_law_is_picture" Qh3 f fd) (B:Bt mg) (c__law_whole:Callee P w K mg base CX0 "_law_whole" 1 ["x"] Zz2) (c__law_board:Callee P w K mg base CX0 "_law_board" 3 ["picture"] Zb8):FnOk P w K mg base CX0 4 f fd ["found","board"] Qp3:=by
 refine F.ok Qs6 (fun vs H Q E h=>?_) (fun cdv A outer s H vs Q E hr h=>?_)
 ·obtain⟨fa,tb,p,b,h,wd,rfl,_⟩:=h
  rfl
 ·obtain⟨fa,tb,p,b,h,wd,rfl,hfd,hbd,fit,bo,h1,h4,w4,k⟩:=h
  have hu:=Qt0 hr
  refine⟨_,(Qq4 (Qk1 (PW.pt (Ql5 (Qr2 (Qt5 (Qx0 (Qt8 K) rfl B.isinstance Qu8 (Qq0 (pv 0) (Qq0 (Zj0 (v:=.ty "list") rfl B.list Qm4 rfl) Qq3))))) (Qr1 (Qz8 Qt6 (Qx0 (Qx5 K) rfl B.len Qj3 (Qq0 (pv 0) Qq3)) (Qx0 (Qx5 K) rfl B.len Qj3 (Qq0 (Qx1 (Qx6 K) (pv 1) Qq6 (fun _ _=>rfl)) Qq3)) (Qx2 _)))))
   (Qq8 (Qz9 Zz5))
   Qx8)
   (Qq4 (Qf3 PassesOwn.never rfl (Qw2 K (pv 0)) (Qx3 (i:=2) Qs6.nd rfl (Or.inl rfl))
   (Qq4 (Qk1 (PW.pt (Ql5 (Qr2 (Qt5 (Qx0 (Qt8 K) rfl B.isinstance Qu8 (Qq0 (pv 2) (Qq0 (Zj0 (v:=.ty "list") rfl B.list Qm4 rfl) Qq3))))) (Qr1 (Qz8 Qt6 (Qx0 (Qx5 K) rfl B.len Qj3 (Qq0 (pv 2) Qq3)) (Qx0 (Qx5 K) rfl B.len Qj3 (Qq0 (Qx1 (Qx6 K) (pv 1) Qq6 (fun _ _=>rfl)) Qq3)) (Qx2 _)))))
   (Qq8 (Qz9 Zz5))
   Qx8)
   (Qq8 (Qf3 PassesOwn.never rfl (Qw2 K (pv 2)) (Qx3 (i:=3) Qs6.nd rfl (Or.inl rfl))
   (Qq8 (Qk1 (PW.pt (Ql5 (Qr2 (Qt5 (Qj6 c__law_whole hr (Qq0 (pv 3) Qq3)))) (Qr1 (Qz8 Zk4 (pv 3) (Qy9 (Qq0 Qq6 (Qq0 Qq6 Qq3))) rfl))))
   (Qq8 (Qz9 Zz5))
   Qx8))))))
   (Qq8 (Qz9 (Zj1 (Zg1 hu) (Qj6 c__law_board hr (Qq0 (pv 0) Qq3)) (pv 1) (Qx2 _)))))),?_⟩
  obtain⟨vs,hfa,hvd⟩:=Zb1 hfd
  obtain⟨ra,ca,ha,hra,hca⟩:=Rp.board_inv hbd
  obtain⟨rs,hrs,hrd⟩:=Rp.tups_inv hra
  obtain⟨cs,hcs,hcd⟩:=Rp.tups_inv hca
  have e1:vs.length=h:=by rw[Qb0 hvd,fit.ok.len]
  have e2:rs.length=h:=by rw[Qb0 hrd,bo.rows]
  have e3:cs.length=wd:=by rw[Qb0 hcd,bo.cols]
  refine⟨_,rfl,_,_,_,true,rfl,fun _ z=>z,.lst hfa,rfl,_,rfl,iteF ?_⟩
  refine⟨_,rfl,fa,_,rfl,.inl (SqL.of hfa),_,rfl,tb,_,_,.ref ra,rfl,rfl,SqT.of ha,rfl,ra,_,rfl,.inr (SqT.of hrs),rfl,_,rfl,Qs8 (by rw[e1,e2]) ?_⟩
  refine⟨_,rfl,fa,rfl,⟨_,SqL.of hfa⟩,Zm1 (K:=K) (a:=fa) (xs:=vs) (fun i σ H2=>∃o2 o3,σ=[some (.ref fa),some (.ref tb),o2,o3]∧Same H H2) ⟨none,none,rfl,Same.refl _⟩ ?_ ?_ ?_⟩
  ·rintro i σ H2 _ ⟨o2,o3,rfl,s2⟩
   exact SqL.of (s2 _ _ hfa)
  ·intro Pw mw
   rintro i x σ H2 hi ⟨o2,o3,rfl,s2⟩
   obtain⟨xs,hxs,hxd⟩:=Qu4 hvd hi
   obtain⟨xa,rfl,hxa⟩:=Zj4 hxd
   have hxa2:=s2 _ _ hxa
   have e4:xs.length=wd:=fit.ok.wid xs (List.mem_of_getElem? hxs)
   have hbit:=fit.ok.bit xs (List.mem_of_getElem? hxs)
   refine⟨_,rfl,_,_,_,true,rfl,fun _ z=>z,.lst hxa2,rfl,_,rfl,iteF ?_⟩
   refine⟨_,rfl,xa,_,rfl,.inl (SqL.of hxa2),_,rfl,tb,_,_,.ref ca,rfl,rfl,SqT.of (s2 _ _ ha),rfl,ca,_,rfl,.inr (SqT.of (s2 _ _ hcs)),rfl,_,rfl,Qs8 (by rw[List.length_map,e3,e4]) ?_⟩
   refine⟨_,rfl,xa,rfl,⟨_,SqL.of hxa2⟩,Zm1 (K:=K) (a:=xa) (xs:=xs.map V.int) (fun j σ H3=>∃o3,σ=[some (.ref fa),some (.ref tb),some (.ref xa),o3]∧Same H2 H3) ⟨_,rfl,Same.refl _⟩ ?_ ?_ ?_⟩
   ·rintro j σ H3 _ ⟨o3,rfl,s3⟩
    exact SqL.of (s3 _ _ hxa2)
   ·intro Pw2 mw2
    rintro j y σ H3 hj ⟨o3,rfl,s3⟩
    obtain⟨z,hz,rfl⟩:=Xp9 hj
    refine⟨_,rfl,z,rfl,_,rfl,iteF ?_⟩
    refine⟨_,rfl,by show 2≤sizeLine;decide,fun t ht=>?_⟩
    refine⟨t,_,rfl,.inr (SqT.of Qq1),rfl,rfl,_,rfl,?_⟩
    rcases hbit z (List.mem_of_getElem? hz) with e|e
    ·subst e
     exact iteF (mw2 _ _ _ ⟨_,rfl,s3.trans (Qq5 ht)⟩)
    ·subst e
     exact iteF (mw2 _ _ _ ⟨_,rfl,s3.trans (Qq5 ht)⟩)
   ·rintro σ H3 ⟨o3,rfl,s3⟩
    exact mw _ _ _ ⟨_,_,rfl,s2.trans s3⟩
  ·rintro σ H2 ⟨o2,o3,rfl,s2⟩
   refine⟨_,rfl,fa,p,wd,rfl,IsD.mono s2 hfd,by rw[fit.ok.len];exact h1,by rw[fit.ok.len];omega,by omega,fit.ok.wid,fun t H3 s3 ht=>?_⟩
   rw[Xt7 bo fit]at ht
   refine⟨_,rfl,Qv8 b,Qv8 b,ht,IsD.mono (s2.trans s3) hbd,rfl,rfl,Nat.le_trans (Zy3 _) (by decide),?_⟩
   rw[Qc8]
   exact k _ (s2.trans s3)
end
section
theorem Xb8 {H:Hp}{v:V} (h:IsT H .pic v):∃a,v=.ref a∧H a=some (.tup [.str "picture"]):=by
 unfold IsT Zx5 IsD at h
 obtain⟨a,xs,rfl,ha,hs⟩:=h
 unfold IsDs at hs
 obtain⟨y,r,rfl,hy,hs⟩:=hs
 unfold IsDs at hs
 subst hs
 unfold IsD at hy
 subst hy
 exact⟨a,rfl,tups_inv ha⟩
theorem Xh7 {H:Hp}{s n:Nat}{v:V} (h:IsT H (.shut s n) v):∃a,v=.ref a∧H a=some (.tup [.str "shut",.str (Qu6 s),.int (n:Nat)]):=by
 unfold IsT Zx5 IsD at h
 obtain⟨a,xs,rfl,ha,hs⟩:=h
 unfold IsDs at hs
 obtain⟨y1,r1,rfl,h1,hs⟩:=hs
 unfold IsDs at hs
 obtain⟨y2,r2,rfl,h2,hs⟩:=hs
 unfold IsDs at hs
 obtain⟨y3,r3,rfl,h3,hs⟩:=hs
 unfold IsDs at hs
 subst hs
 unfold IsD at h1 h2 h3
 subst h1 h2 h3
 exact⟨a,rfl,tups_inv ha⟩
theorem Xb9 {H:Hp}{r c:Nat}{t0 t1:Tree}{v:V} (h:IsT H (.tri r c t0 t1) v):∃a v0 v1,v=.ref a∧H a=some (.tup [.str "try",.int (r:Nat),.int (c:Nat),v0,v1])∧IsT H t0 v0∧IsT H t1 v1:=by
 unfold IsT Zx5 IsD at h
 obtain⟨a,xs,rfl,ha,hs⟩:=h
 unfold IsDs at hs
 obtain⟨y1,r1,rfl,h1,hs⟩:=hs
 unfold IsDs at hs
 obtain⟨y2,r2,rfl,h2,hs⟩:=hs
 unfold IsDs at hs
 obtain⟨y3,r3,rfl,h3,hs⟩:=hs
 unfold IsDs at hs
 obtain⟨y4,r4,rfl,h4,hs⟩:=hs
 unfold IsDs at hs
 obtain⟨y5,r5,rfl,h5,hs⟩:=hs
 unfold IsDs at hs
 subst hs
 unfold IsD at h1 h2 h3
 subst h1 h2 h3
 exact⟨a,y4,y5,rfl,tups_inv ha,h4,h5⟩
theorem Xj5 {h w:Nat}{v:View} (o:VOk h w v) (d:Done h w v):Qe4 v=Qk6 (picZ v):=by
 unfold Qe4 Qk6 picZ
 rw[List.map_map]
 congr 1
 apply List.ext_getElem (by rw[List.length_map,List.length_map])
 intro i h1 h2
 rw[List.length_map]at h1
 rw[List.getElem_map,List.getElem_map]
 show Qr3 v[i]=dRow ((v[i]).map fun o=>o.getD 0)
 unfold Qr3 dRow
 rw[List.map_map]
 congr 1
 have hr:=o.row (i:=i) (by rw[←o.len];exact h1)
 apply List.ext_getElem (by rw[List.length_map,List.length_map])
 intro j g1 g2
 rw[List.length_map]at g1
 rw[List.getElem_map,List.getElem_map]
 have e:v.getD i []=v[i]:=Qz4 (List.getElem?_eq_getElem h1)
 rw[e]at hr
 have hd:=d i j (by rw[←o.len];exact h1) (by rw[←hr.1];exact g1)
 unfold Qz5 at hd
 rw[e,Qz4 (List.getElem?_eq_getElem g1)]at hd
 show dO (v[i])[j]=Dt.int ((v[i])[j].getD 0)
 cases q:(v[i])[j] with
 | none=>exact absurd q hd
 | some z=>rfl
end
section
variable {P:Program}{w:World}{K:PySem.W.Frag}{mg:Str→Option Value}{base:Heap}{C:Addr}
def Zq8 (n:Nat):Sp:=fun vs H Q _=>∃(tb lr:Addr) (b:Brd) (v:View) (t:Tree) (val:V) (qs:List View) (h wd:Nat),vs=[.ref tb,val,.ref lr]∧IsD H (Qv8 b) (.ref tb)∧IsT H t val∧IsD H (Qe4 v) (.ref lr)∧VOk h wd v∧BOk h wd b∧1≤h∧h≤4∧wd≤4∧Leaf h wd b t v qs∧qs.length≤1∧unk v≤n ∧
 ∀(l:Addr) (vs':List V) (H':Hp),Same H H'→H' l=some (.lst vs')→IsDs H' (qs.map fun u=>Qk6 (picZ u)) vs'→Q (.ref l) H'
def spR:Nat→Sp
 | 0=>fun _ _ _ _=>False
 | n+1=>Zq8 n
theorem Qg1:FnScope ["board","tree","rows","side","found","told","less","below"] ["board","tree","rows"] (Qz0 Qh4):=⟨rfl,rfl,rfl,by decide +kernel,rfl,by decide +kernel,by decide +kernel⟩
theorem eT {c A B:Prop} [Decidable c] (hc:c) (h:A):if decide c=true then A else B:=by
 rw[decide_eq_true hc]
 exact iteT h
theorem eF {c A B:Prop} [Decidable c] (hc:¬c) (h:B):if decide c=true then A else B:=by
 rw[decide_eq_false hc]
 exact iteF h
theorem eNT {c A B:Prop} [Decidable c] (hc:¬c) (h:A):if (!decide c)=true then A else B:=by
 rw[decide_eq_false hc]
 exact iteT h
theorem Zd6 {a b:Str} (h:¬a=b):¬V.str a=V.str b:=fun z=>h (V.str.inj z)
theorem Xj6 {f:Addr}{fd:FuncData} (n lv:Nat) (hlv:4≤lv) (F:Fun K "_law_leaves" "_law_leaves" Qh4 f fd) (B:Bt mg) (c__law_is_picture:Callee P w K mg base CX0 "_law_is_picture" 4 ["found","board"] Qp3) (c__law_fitting:Callee P w K mg base CX0 "_law_fitting" 2 ["runs","sight"] Qs2) (c__law_sight:Callee P w K mg base CX0 "_law_sight" 1 ["rows","side","at"] Qi4)
  (c__law_leaves:Callee P w K mg base CX0 "_law_leaves" lv ["board","tree","rows"] (spR n)):FnOk P w K mg base CX0 (lv+1) f fd ["board","tree","rows"] (Zq8 n):=by
 refine F.ok Qg1 (fun vs H Q E h=>?_) (fun cdv A outer s H vs Q E hr h=>?_)
 ·obtain⟨tb,lr,b,v,t,val,qs,h,wd,rfl,_⟩:=h
  rfl
 ·obtain⟨tb,lr,b,v,t,val,qs,h,wd,rfl,hbd,hT,hvd,vo,bo,h1,h4,w4,L,two,hun,k⟩:=h
  have hu:(A.deeper (PyProof.Rows.envOfC "_law_leaves" (Qz0 Qh4) s.heap.objs.size f cdv)).units+20<cLine:=Qt0 hr
  refine⟨_,(Qq4 (Qk1 (PW.pt (Ql5 (Qr2 (Qt5 (Qx0 (Qt8 K) rfl B.isinstance Qu8 (Qq0 (pv 1) (Qq0 (Zj0 (v:=.ty "tuple") rfl B.tuple Ql1 rfl) Qq3))))) (Qr1 (Qz8 Qb5 (Qx0 (Qx5 K) rfl B.len Qj3 (Qq0 (pv 1) Qq3)) Qq6 (Qx2 _)))))
   (Qq8 (Qz9 Qg4))
   Qx8)
   (Qq4 (Qk1 (Qz8 Qb5 (Qx1 (Qx6 K) (pv 1) Qq6 (fun _ _=>rfl)) Qy7 (Qx2 _))
   (Qq4 (Qk1 (PW.pt (Ql5 (Qz8 Qt6 (Qx0 (Qx5 K) rfl B.len Qj3 (Qq0 (pv 1) Qq3)) Qq6 (Qx2 _)) (Qr1 (Qr2 (Qt5 (Qj6 c__law_is_picture hr (Qq0 (pv 2) (Qq0 (pv 0) Qq3)) (hk:=hlv)))))))
   (Qq8 (Qz9 Qg4))
   Qx8)
   (Qq8 (Qz9 (Qv7 (Qq0 (Qp5 ["row"] [] ⟨rfl,rfl,rfl,rfl,rfl⟩ rfl (Qw2 K (pv 2)) (fun _ _ _ _ _=>(Qx3 (i:=0) (show (["row"]:List Str).Nodup by decide +kernel) rfl (Or.inl rfl))) (fun _ _ _ _ _=>Qw5 (Qv0 (Qb6 K) rfl B.list Qm4 (Qq0 (pv 0) Qq3)))) Qq3)))))
   Qx8)
   (Qq4 (Qk1 (Qz8 Qb5 (Qx1 (Qx6 K) (pv 1) Qq6 (fun _ _=>rfl)) Qy7 (Qx2 _))
   (Qq4 (Qk1 (PW.pt (Ql5 (Qz8 Qt6 (Qx0 (Qx5 K) rfl B.len Qj3 (Qq0 (pv 1) Qq3)) Qq6 (Qx2 _)) (Qr1 (Qz8 Zk4 (Qx1 (Qx6 K) (pv 1) Qq6 (fun _ _=>rfl)) (Qy9 (Qq0 Qy7 (Qq0 Qy7 Qq3))) rfl))))
   (Qq8 (Qz9 Qg4))
   Qx8)
   (Qq4 (Qz6 (i:=3) Qg1.nd rfl (Or.inl rfl) (Qv0 Xq7 rfl B.int Xw7 (Qq0 (Zj1 Qb5 (Qx1 (Qx6 K) (pv 1) Qq6 (fun _ _=>rfl)) Qy7 (Qx2 _)) Qq3)))
   (Qq4 (Qk1 (Qr2 (Zr0 Xu1 Zw2 Qq6 (Qx1 (Qx6 K) (pv 1) Qq6 (fun _ _=>rfl)) (Qx0 (Qx5 K) rfl B.len Qj3 (Qq0 (Qx1 (Qx6 K) (pv 0) (pv 3) (fun _ _=>rfl)) Qq3))))
   (Qq8 (Qz9 Qg4))
   Qx8)
   (Qq4 (Qk1 (Qz8 (Zi8 hu) (Qj6 c__law_fitting hr (Qq0 (Qx1 (Qx6 K) (Qx1 (Qx6 K) (pv 0) (pv 3) (fun _ _=>rfl)) (Qx1 (Qx6 K) (pv 1) Qq6 (fun _ _=>rfl)) (fun _ _=>rfl)) (Qq0 (Qj6 c__law_sight hr (Qq0 (pv 2) (Qq0 (pv 3) (Qq0 (Qx1 (Qx6 K) (pv 1) Qq6 (fun _ _=>rfl)) Qq3))) (hk:=by omega)) Qq3)) (hk:=by omega)) (Qv7 Qq3) (Qx2 _))
   (Qq8 (Qz9 Qg4))
   Qx8)
   (Qq8 (Qz9 (Qv7 Qq3)))))))
   Qx8)
   (Qq4 (Qk1 (PW.pt (Ql5 (Qz8 Qt6 (Qx1 (Qx6 K) (pv 1) Qq6 (fun _ _=>rfl)) Qy7 (Qx2 _)) (Ql5 (Qz8 Qt6 (Qx0 (Qx5 K) rfl B.len Qj3 (Qq0 (pv 1) Qq3)) Qq6 (Qx2 _)) (Ql5 (Qr2 (Zr0 Xu1 Zw2 Qq6 (Qx1 (Qx6 K) (pv 1) Qq6 (fun _ _=>rfl)) (Qx0 (Qx5 K) rfl B.len Qj3 (Qq0 (pv 2) Qq3)))) (Qr1 (Qr2 (Zr0 Xu1 Zw2 Qq6 (Qx1 (Qx6 K) (pv 1) Qq6 (fun _ _=>rfl)) (Qx0 (Qx5 K) rfl B.len Qj3 (Qq0 (Qx1 (Qk0 K) (pv 2) Qq6 (fun _ _=>rfl)) Qq3)))))))))
   (Qq8 (Qz9 Qg4))
   Qx8)
   (Qq4 (Qk1 (Qz8 Xp5 (Qx1 (Qk0 K) (Qx1 (Qk0 K) (pv 2) (Qx1 (Qx6 K) (pv 1) Qq6 (fun _ _=>rfl)) (fun _ _=>rfl)) (Qx1 (Qx6 K) (pv 1) Qq6 (fun _ _=>rfl)) (fun _ _=>rfl)) Qg4 (Qx2 _))
   (Qq8 (Qz9 Qg4))
   Qx8)
   (Qq4 (Qz6 (i:=4) Qg1.nd rfl (Or.inl rfl) (Qv7 Qq3))
   (Qq4 (Qf3 PassesOwn.never rfl (Qy8 rfl B.range (Qq0 Qq6 Qq3)) (Qx3 (i:=5) Qg1.nd rfl (Or.inl rfl))
   (Qq4 (Qf5 (i:=6) ["row"] [] Qg1.nd rfl rfl ⟨rfl,rfl,rfl,rfl,rfl⟩ rfl (Qw2 K (pv 2)) (fun _ _ _ _ _=>(Qx3 (i:=0) (show (["row"]:List Str).Nodup by decide +kernel) rfl (Or.inl rfl))) (fun _ _ _ _ _=>Qw5 (Qv0 (Qb6 K) rfl B.list Qm4 (Qq0 (pv 0) Qq3))))
   (Qq4 (Zy7 (pv 5) (Zy6 (Qx1 (Qk0 K) (pv 6) (Qx1 (Qx6 K) (pv 1) Qq6 (fun _ _=>rfl)) (fun _ _=>rfl)) (Qx1 (Qx6 K) (pv 1) Qq6 (fun _ _=>rfl)) Qo0))
   (Qq4 (Qz6 (i:=7) Qg1.nd rfl (Or.inl rfl) (Qj6 c__law_leaves hr (Qq0 (pv 0) (Qq0 (Qx1 (Qx6 K) (pv 1) (Qz7 Qy1 Qq6 (pv 5)) (fun _ _=>rfl)) (Qq0 (pv 6) Qq3))) (hk:=Nat.le_refl _)))
   (Qq4 (Qk1 (Qz8 Zf1 (pv 7) Qg4 (Qx2 _))
   (Qq8 (Qz9 Qg4))
   Qx8)
   (Qq8 (Qz6 (i:=4) Qg1.nd rfl (Or.inl rfl) (Qz7 Zy9 (pv 4) (pv 7)))))))))
   (Qq8 (Qz9 (pv 4)))))))))),?_⟩
  have hbig:100≤sizeLine:=by decide
  obtain⟨ws,hlr,hwd⟩:=Xg0 hvd
  have hwl:ws.length=h:=by rw[Zj6 hwd,vo.len]
  obtain⟨ra,ca,ha,hra,hca⟩:=Rp.board_inv hbd
  obtain⟨rs,hrs,hrd⟩:=Rp.tups_inv hra
  obtain⟨cs,hcs,hcd⟩:=Rp.tups_inv hca
  have e2:rs.length=h:=by rw[Qb0 hrd,bo.rows]
  have e3:cs.length=wd:=by rw[Qb0 hcd,bo.cols]
  cases L with
  | pic d fit =>
   obtain⟨ta,rfl,hta⟩:=Xb8 hT
   have hpd:IsD H (Qk6 (picZ v)) (.ref lr):=by rw[←Xj5 vo d];exact hvd
   refine⟨_,rfl,_,_,_,true,rfl,fun _ z=>z,.tup hta,rfl,_,rfl,iteF ?_⟩
   refine⟨_,rfl,ta,_,rfl,.inr (SqT.of hta),rfl,_,rfl,iteF ?_⟩
   refine⟨_,rfl,ta,_,_,.str "picture",rfl,rfl,SqT.of hta,rfl,rfl,_,rfl,eT rfl ?_⟩
   refine⟨_,rfl,ta,_,rfl,.inr (SqT.of hta),rfl,_,rfl,Qs8 rfl ?_⟩
   refine⟨_,rfl,_,rfl,lr,tb,picZ v,b,h,wd,rfl,hpd,hbd,Xt1 bo vo d fit,bo,h1,h4,w4,fun H1 s1=>⟨_,rfl,iteF ?_⟩⟩
   have hlr1:=s1 _ _ hlr
   have hwd1:=IsDs.mono s1 hwd
   refine⟨_,rfl,lr,rfl,⟨_,SqL.of hlr1⟩,Qw0 (K:=K) (a:=lr) (xs:=ws) (fun j ys H6=>∃as,ys=as.map V.ref∧GrowV H1 (fun j=>Qj4 (v.getD j [])) j as H6) ⟨[],rfl,GrowV.zero⟩ ?_ ?_ ?_ ?_ ?_⟩
   ·omega
   ·rintro j ys H6 ⟨as,rfl,g⟩
    rw[List.length_map,g.len]
    exact Nat.le_refl _
   ·rintro j ys H6 _ ⟨as,rfl,g⟩
    exact SqL.of (g.same _ _ hlr1)
   ·rintro j y ys H6 hj ⟨as,rfl,g⟩
    obtain⟨sg,hsg,hd⟩:=Zv1 hwd1 hj
    obtain⟨a',rfl,ha'⟩:=Zq1 hd
    refine⟨rfl,?_⟩
    refine⟨_,rfl,a',_,rfl,.inl (SqL.of (g.same _ _ ha')),fun l1 hl1=>?_⟩
    exact⟨as++[l1],by rw[List.map_append];rfl,g.next (Qq5 hl1) hl1 (by rw[Qq1,Qz4 hsg])⟩
   rintro ys H6' ⟨as,rfl,g⟩ lc hlc
   rw[Zj6 hwd]at g
   have ow:=g.own hlc
   rw[Zm3 Qj4 [] v]at ow
   generalize upd H6' lc (.lst (as.map V.ref))=H6 at ow ⊢
   refine⟨by show 1≤sizeLine;decide,fun l hl=>?_⟩
   have s7:Same H6 (upd H6 l (.lst [.ref lc])):=Qq5 hl
   refine k l [.ref lc] _ (s1.trans (ow.same.trans s7)) Qq1 ?_
   have hz:IsD (upd H6 l (.lst [.ref lc])) (Qk6 (picZ v)) (.ref lc):=by rw[←Xj5 vo d];exact IsD.mono s7 ow.isD
   exact IsDs.snoc (Ql4 _) hz
  | @shut _ l hl no =>
   obtain⟨ta,rfl,hta⟩:=Xh7 hT
   obtain⟨sd,nm⟩:=l
   refine⟨_,rfl,_,_,_,true,rfl,fun _ z=>z,.tup hta,rfl,_,rfl,iteF ?_⟩
   refine⟨_,rfl,ta,_,rfl,.inr (SqT.of hta),rfl,_,rfl,iteF ?_⟩
   refine⟨_,rfl,ta,_,_,.str "shut",rfl,rfl,SqT.of hta,rfl,rfl,_,rfl,eF (Zd6 (by decide +kernel)) ?_⟩
   refine⟨_,rfl,ta,_,_,.str "shut",rfl,rfl,SqT.of hta,rfl,rfl,_,rfl,eT rfl ?_⟩
   refine⟨_,rfl,ta,_,rfl,.inr (SqT.of hta),rfl,_,rfl,Qs8 rfl ?_⟩
   have side:∃(xa:Addr) (xv:List V) (tr:Addr) (xs:List Int),(sd=0∨sd=1)∧([V.ref ra,V.ref ca]:List V)[sd]?=some (.ref xa)∧H xa=some (.tup xv)∧xv[nm]?=some (.ref tr)∧H tr=some (.tup (xs.map V.int))∧Qw8 b sd nm=natR xs∧(∀x∈xs,1≤x∧x≤500):=by
    rcases hl with ⟨g1,g2⟩|⟨g1,g2⟩
    ·replace g1:sd=0:=g1
     replace g2:nm<h:=g2
     subst g1
     have hn:nm<rs.length:=by omega
     obtain⟨xs,hx,hxd⟩:=Qu4 hrd (List.getElem?_eq_getElem hn)
     obtain⟨tr,e,htr⟩:=Rp.tup_inv hxd
     exact⟨ra,rs,tr,xs,.inl rfl,rfl,hrs,by rw[List.getElem?_eq_getElem hn,e],htr,by unfold Qw8;rw[if_pos rfl,Qz4 hx],(bo.r1 xs (List.mem_of_getElem? hx)).1⟩
    ·replace g1:sd=1:=g1
     replace g2:nm<wd:=g2
     subst g1
     have hn:nm<cs.length:=by omega
     obtain⟨xs,hx,hxd⟩:=Qu4 hcd (List.getElem?_eq_getElem hn)
     obtain⟨tr,e,htr⟩:=Rp.tup_inv hxd
     exact⟨ca,cs,tr,xs,.inr rfl,rfl,hcs,by rw[List.getElem?_eq_getElem hn,e],htr,by unfold Qw8;rw[if_neg (by decide),Qz4 hx],(bo.r2 xs (List.mem_of_getElem? hx)).1⟩
   obtain⟨xa,xv,tr,xs,hsd,hxa,hxv,htr,htx,hrun,hxok⟩:=side
   have hnm:nm<xv.length:=(List.getElem?_eq_some_iff.mp htr).1
   refine⟨_,rfl,ta,_,_,.str (Qu6 sd),rfl,rfl,SqT.of hta,rfl,by show 2≤sizeLine;decide,fun tk htk=>?_⟩
   have s1:Same H (upd H tk (.tup [.str "row",.str "column"])):=Qq5 htk
   have htk1:(upd H tk (.tup [.str "row",.str "column"])) tk=some (.tup [.str "row",.str "column"]):=Qq1
   generalize upd H tk (.tup [.str "row",.str "column"])=H1 at s1 htk1 ⊢
   refine⟨tk,_,rfl,.inr (SqT.of htk1),rfl,rfl,_,rfl,?_⟩
   have hin:(if true=true then !inV (V.str (Qu6 sd)) [V.str "row",V.str "column"] else inV (V.str (Qu6 sd)) [V.str "row",V.str "column"])=false:=by
    rcases hsd with e|e<;>rw[e]<;>decide +kernel
   rw[hin]
   refine iteF ?_
   refine⟨_,rfl,ta,_,_,.str (Qu6 sd),rfl,rfl,SqT.of (s1 _ _ hta),rfl,rfl,.inr ⟨_,rfl,?_⟩⟩
   have hside:(if decide (V.str (Qu6 sd)=V.str "column")=true then (1:Int) else 0)=(sd:Nat):=by
    rcases hsd with e|e<;>rw[e]<;>decide +kernel
   show Qu5 3 (V.int (if decide (V.str (Qu6 sd)=V.str "column")=true then (1:Int) else 0)) _ _ _
   rw[hside]
   refine⟨_,rfl,ta,_,_,.int (nm:Nat),rfl,rfl,SqT.of (s1 _ _ hta),rfl,_,_,rfl,rfl,_,rfl,?_⟩
   refine eT (by omega) ?_
   refine⟨_,rfl,_,rfl,tb,_,_,.ref xa,rfl,rfl,SqT.of (s1 _ _ ha),Qx7 hxa,xa,_,rfl,.inr (SqT.of (s1 _ _ hxv)),_,_,rfl,rfl,_,rfl,?_⟩
   refine Qs8 (by omega) ?_
   refine⟨_,rfl,_,rfl,tb,_,_,.ref xa,rfl,rfl,SqT.of (s1 _ _ ha),Qx7 hxa,_,rfl,ta,_,_,.int (nm:Nat),rfl,rfl,SqT.of (s1 _ _ hta),rfl,xa,_,_,.ref tr,rfl,rfl,SqT.of (s1 _ _ hxv),Qx7 htr,?_⟩
   refine⟨_,rfl,_,rfl,_,rfl,ta,_,_,.int (nm:Nat),rfl,rfl,SqT.of (s1 _ _ hta),rfl,lr,v,h,wd,(sd,nm),rfl,IsD.mono s1 hvd,vo,by omega,hl,fun sa H2 s2 nsa hsa=>?_⟩
   have hsl:(Qq7 v sd nm).length≤8:=by
    have e:(Qq7 v sd nm).length=lenL h wd (sd,nm):=Qv9 vo hl
    have e2:lenL h wd (sd,nm)≤4:=Qt2 h4 w4
    rw[e]
    omega
   refine⟨tr,sa,natR xs,Qq7 v sd nm,rfl,by rw[←Zm8 hxok];exact s2 _ _ (s1 _ _ htx),hsa,hsl,fun k hk=>(Zg6 hxok k hk).1,Qm0 vo hl,fun ll as H3 O3=>?_⟩
   have no':layL (natR xs) (Qq7 v sd nm)=[]:=by rw[←hrun];exact no
   rw[no']at O3
   have has:as=[]:=List.length_eq_zero_iff.mp O3.len
   subst has
   refine⟨Nat.zero_le _,fun e0 he0=>?_⟩
   have s4:Same H3 (upd H3 e0 (.lst [])):=Qq5 he0
   have he4:(upd H3 e0 (.lst [])) e0=some (.lst (([]:List Int).map V.int)):=Qq1
   generalize upd H3 e0 (.lst [])=H4 at s4 he4 ⊢
   refine⟨dRow [],dRow [],Qu9 (s4 _ _ O3.at'),Qu9 he4,.inl ⟨_,_,rfl,rfl⟩,Nat.le_trans (Zw5 _) (by decide),_,rfl,?_⟩
   rw[Qc8]
   refine iteF ?_
   refine⟨Nat.zero_le _,fun l hl0=>?_⟩
   exact k l [] _ (s1.trans (s2.trans (O3.same.trans (s4.trans (Qq5 hl0))))) Qq1 (Ql4 _)
  | @tri _ r c t0 t1 p0 p1 hrh hcw op L0 L1 =>
   obtain⟨ta,v0,v1,rfl,hta,hT0,hT1⟩:=Xb9 hT
   refine⟨_,rfl,_,_,_,true,rfl,fun _ z=>z,.tup hta,rfl,_,rfl,iteF ?_⟩
   refine⟨_,rfl,ta,_,rfl,.inr (SqT.of hta),rfl,_,rfl,iteF ?_⟩
   refine⟨_,rfl,ta,_,_,.str "try",rfl,rfl,SqT.of hta,rfl,rfl,_,rfl,eF (Zd6 (by decide +kernel)) ?_⟩
   refine⟨_,rfl,ta,_,_,.str "try",rfl,rfl,SqT.of hta,rfl,rfl,_,rfl,eF (Zd6 (by decide +kernel)) ?_⟩
   have hwr:∀{i:Nat},i<h→∃xa,ws[i]?=some (.ref xa)∧H xa=some (.lst (Qj4 (v.getD i []))):=fun {i} hi=>by
    have hi':i<v.length:=by rw[vo.len];exact hi
    obtain⟨x,hx,hxd⟩:=Xg1 (f:=Qr3) hwd (List.getElem?_eq_getElem hi')
    obtain⟨xa,rfl,hxa⟩:=Zq1 hxd
    exact⟨xa,hx,by rw[Qz4 (List.getElem?_eq_getElem hi')];exact hxa⟩
   obtain⟨x0,hx0,hx0a⟩:=hwr (i:=0) (by omega)
   obtain⟨xr,hxr,hxra⟩:=hwr hrh
   have hrow:=vo.row hrh
   have hrow0:=vo.row (i:=0) (by omega)
   have hsvl:∀s:Qj5,(Qj4 s).length=s.length:=fun s=>by unfold Qj4;rw[List.length_map]
   have hcell:(Qj4 (v.getD r []))[c]?=some V.non:=by
    unfold Qj4
    have hc':c<(v.getD r []).length:=by rw[hrow.1];exact hcw
    rw[List.getElem?_map,List.getElem?_eq_getElem hc']
    have:(v.getD r [])[c]=none:=by
     have:=op
     unfold Qz5 at this
     rw[Qz4 (List.getElem?_eq_getElem hc')]at this
     exact this
    rw[this]
    rfl
   refine⟨_,rfl,ta,_,_,.str "try",rfl,rfl,SqT.of hta,rfl,rfl,_,rfl,Qs8 rfl ?_⟩
   refine⟨_,rfl,ta,_,rfl,.inr (SqT.of hta),rfl,_,rfl,Qs8 rfl ?_⟩
   refine⟨_,rfl,ta,_,_,.int (r:Nat),rfl,rfl,SqT.of hta,rfl,_,_,rfl,rfl,_,rfl,?_⟩
   refine eT (by omega) ?_
   refine⟨_,rfl,lr,_,rfl,.inl (SqL.of hlr),_,_,rfl,rfl,_,rfl,Qs8 (by omega) ?_⟩
   refine⟨_,rfl,ta,_,_,.int (c:Nat),rfl,rfl,SqT.of hta,rfl,_,_,rfl,rfl,_,rfl,?_⟩
   refine eT (by omega) ?_
   refine⟨_,rfl,lr,_,_,.ref x0,rfl,rfl,SqL.of hlr,Qx7 (j:=0) hx0,x0,_,rfl,.inl (SqL.of hx0a),_,_,rfl,rfl,_,rfl,Qs8 (by rw[hsvl,hrow0.1];omega) ?_⟩
   refine⟨_,rfl,_,rfl,ta,_,_,.int (r:Nat),rfl,rfl,SqT.of hta,rfl,lr,_,_,.ref xr,rfl,rfl,SqL.of hlr,Qx7 hxr,_,rfl,ta,_,_,.int (c:Nat),rfl,rfl,SqT.of hta,rfl,xr,_,_,.non,rfl,rfl,SqL.of hxra,Qx7 hcell,rfl,_,rfl,iteF ?_⟩
   refine⟨Nat.zero_le _,fun lf hlf=>?_⟩
   have s1:Same H (upd H lf (.lst [])):=Qq5 hlf
   have hlf1:(upd H lf (.lst [])) lf=some (.lst []):=Qq1
   show Qu5 4 (V.ref lf) _ (upd H lf (.lst [])) _
   generalize upd H lf (.lst [])=H1 at s1 hlf1 ⊢
   obtain⟨m,rfl⟩:∃m,n=m+1:=by
    have:=Zg4 vo (vo.setC (j:=c) hrh (Or.inr (Or.inl rfl))) (Qr8 vo hrh hcw op) hrh hcw op (by rw[Qk8 vo hrh hcw,if_pos ⟨rfl,rfl⟩];exact fun z=>nomatch z)
    exact⟨n-1,by omega⟩
   have hlen:p0.length+p1.length≤1:=by rw[←List.length_append];exact two
   refine⟨2,rfl,by decide,by decide,Qn0 (lo:=0) (n:=(2:Int).toNat) (fun i σ H2=>∃(la:Addr) (gs:List V) (o5 o6 o7:Option V),σ=[some (.ref tb),some (.ref ta),some (.ref lr),none,some (.ref la),o5,o6,o7]∧Same H H2∧H2 la=some (.lst gs)∧IsDs H2 ((if i=0 then [] else if i=1 then p0 else p0++p1).map fun u=>Qk6 (picZ u)) gs)
    ⟨lf,[],none,none,none,rfl,s1,hlf1,Ql4 _⟩ ?_ ?_⟩
   ·intro Pw mw
    rintro i σ H2 hi ⟨la,gs,o5,o6,o7,rfl,s2,hla,hgd⟩
    have e0:(0:Int)+(i:Nat)=(i:Nat):=Int.zero_add _
    rw[e0]
    have hi2:i<2:=hi
    obtain⟨t',v',q,hT',hL',hget,hq,hpre⟩:∃(t':Tree) (v':V) (q:List View),IsT H t' v'∧Leaf h wd b t' (setC v r c (some ((i:Nat):Int))) q∧([V.str "try",.int (r:Nat),.int (c:Nat),v0,v1]:List V)[3+i]?=some v'∧q.length≤1∧(if i+1=0 then [] else if i+1=1 then p0 else p0++p1)=(if i=0 then [] else if i=1 then p0 else p0++p1)++q:=by
     rcases (by omega:i=0∨i=1) with e|e
     ·subst e
      exact⟨t0,v0,p0,hT0,L0,rfl,by omega,by simp⟩
     ·subst e
      exact⟨t1,v1,p1,hT1,L1,rfl,by omega,by simp⟩
    have hz:((i:Nat):Int)=0∨((i:Nat):Int)=1:=by omega
    have hgl:gs.length≤1:=by
     have:=hgd.length
     rw[List.length_map]at this
     rcases (by omega:i=0∨i=1) with e|e<;>subst e<;>simp at this<;>omega
    have vo':VOk h wd (setC v r c (some ((i:Nat):Int))):=vo.setC hrh (by rcases hz with e|e<;>rw[e]<;>simp)
    have hun':unk (setC v r c (some ((i:Nat):Int)))≤m:=by
     have:=Zg4 vo vo' (Qr8 vo hrh hcw op) hrh hcw op (by rw[Qk8 vo hrh hcw,if_pos ⟨rfl,rfl⟩];exact fun z=>nomatch z)
     omega
    have hlr2:=s2 _ _ hlr
    have hwd2:=IsDs.mono s2 hwd
    refine⟨_,rfl,lr,rfl,⟨_,SqL.of hlr2⟩,Qw0 (K:=K) (a:=lr) (xs:=ws) (fun j ys H6=>∃as,ys=as.map V.ref∧GrowV H2 (fun j=>Qj4 (v.getD j [])) j as H6) ⟨[],rfl,GrowV.zero⟩ ?_ ?_ ?_ ?_ ?_⟩
    ·omega
    ·rintro j ys H6 ⟨as,rfl,g⟩
     rw[List.length_map,g.len]
     exact Nat.le_refl _
    ·rintro j ys H6 _ ⟨as,rfl,g⟩
     exact SqL.of (g.same _ _ hlr2)
    ·rintro j y ys H6 hj ⟨as,rfl,g⟩
     obtain⟨sg,hsg,hd⟩:=Zv1 hwd2 hj
     obtain⟨a',rfl,ha'⟩:=Zq1 hd
     refine⟨rfl,?_⟩
     refine⟨_,rfl,a',_,rfl,.inl (SqL.of (g.same _ _ ha')),fun l1 hl1=>?_⟩
     exact⟨as++[l1],by rw[List.map_append];rfl,g.next (Qq5 hl1) hl1 (by rw[Qq1,Qz4 hsg])⟩
    rintro ys H6' ⟨as,rfl,g⟩ lc hlc
    rw[Zj6 hwd]at g
    have ow:=g.own hlc
    rw[Zm3 Qj4 [] v]at ow
    show Qu5 6 (V.ref lc) _ (upd H6' lc (.lst (as.map V.ref))) _
    generalize upd H6' lc (.lst (as.map V.ref))=H6 at ow ⊢
    have s6:=s2.trans ow.same
    obtain⟨ar,har,harr⟩:=Yz7 ow (i:=r) (by rw[vo.len];exact hrh)
    refine⟨_,rfl,_,rfl,_,rfl,ta,_,_,.int (r:Nat),rfl,rfl,SqT.of (s6 _ _ hta),rfl,lc,_,_,.ref ar,rfl,rfl,SqL.of ow.at',Qx7 (by rw[List.getElem?_map,har];rfl),_,rfl,ta,_,_,.int (c:Nat),rfl,rfl,SqT.of (s6 _ _ hta),rfl,ar,_,_,c,rfl,rfl,harr,Zg7 (by rw[hsvl,hrow.1];exact hcw),?_⟩
    have ow7:=Xt6 (j:=c) (x:=some ((i:Nat):Int)) ow har
    show Ends.nx _ _ (upd H6 ar (.lst ((Qj4 (v.getD r [])).set c (vO (some ((i:Nat):Int))))))
    generalize upd H6 ar (.lst ((Qj4 (v.getD r [])).set c (vO (some ((i:Nat):Int)))))=H7 at ow7 ⊢
    have s7:=s2.trans ow7.same
    refine⟨_,rfl,_,rfl,_,rfl,_,_,rfl,rfl,ta,_,_,v',rfl,rfl,SqT.of (s7 _ _ hta),Qx7 (j:=3+i) hget,_,rfl,tb,lc,b,_,t',v',q,h,wd,rfl,IsD.mono s7 hbd,hT'.mono (TupK.of s7),ow7.isD,vo',bo,h1,h4,w4,hL',hq,hun',fun l vs' H8 s8 hl8 hd8=>?_⟩
    refine⟨_,rfl,rfl,_,rfl,iteF ?_⟩
    have hvl:vs'.length≤1:=by
     have:=hd8.length
     rw[List.length_map]at this
     omega
    have hla8:=s8 _ _ (ow7.same _ _ hla)
    refine⟨_,rfl,_,rfl,la,l,_,_,rfl,rfl,hla8,hl8,by omega,fun p hp=>?_⟩
    have s9:Same H8 (upd H8 p (.lst (gs++vs'))):=Qq5 hp
    refine mw _ _ _ ⟨p,gs++vs',_,_,_,rfl,s7.trans (s8.trans s9),Qq1,?_⟩
    rw[hpre,List.map_append]
    exact Yz6 (IsDs.mono (ow7.same.trans (s8.trans s9)) hgd) (IsDs.mono s9 hd8)
   ·rintro σ H2 ⟨la,gs,o5,o6,o7,rfl,s2,hla,hgd⟩
    exact⟨_,rfl,k la gs H2 s2 hla hgd⟩
theorem Zo6 {f:Addr}{fd:FuncData} (F:Fun K "_law_leaves" "_law_leaves" Qh4 f fd) (B:Bt mg) (c__law_is_picture:Callee P w K mg base CX0 "_law_is_picture" 4 ["found","board"] Qp3) (c__law_fitting:Callee P w K mg base CX0 "_law_fitting" 2 ["runs","sight"] Qs2) (c__law_sight:Callee P w K mg base CX0 "_law_sight" 1 ["rows","side","at"] Qi4)
  (mkc:∀k sp,FnOk P w K mg base CX0 k f fd ["board","tree","rows"] sp→Callee P w K mg base CX0 "_law_leaves" k ["board","tree","rows"] sp):∀n,FnOk P w K mg base CX0 (n+6) f fd ["board","tree","rows"] (Zq8 n)
 | 0=>Xj6 0 5 (by omega) F B c__law_is_picture c__law_fitting c__law_sight (mkc 5 (spR 0) (F.ok Qg1 (fun vs H Q E h=>h.elim) (fun cdv A outer s H vs Q E hr h=>h.elim)))
 | n+1=>Xj6 (n+1) (n+6) (by omega) F B c__law_is_picture c__law_fitting c__law_sight (mkc (n+6) (spR (n+1)) (Zo6 F B c__law_is_picture c__law_fitting c__law_sight mkc n))
end
section
variable {P:Program}{w:World}{K:PySem.W.Frag}{mg:Str→Option Value}{base:Heap}{C:Addr}
theorem Xh8 {xs:List V}{k:Nat} (h:k≤xs.length):cutV xs none (some (k:Int))=xs.take k:=by
 unfold cutV
 rw[HT.sIx_nat,HT.sIx_none,Nat.min_eq_left h]
 simp
theorem Xh9 {xs:List V}{k:Nat} (h:k≤xs.length):cutV xs (some (k:Int)) none=xs.drop k:=by
 unfold cutV
 rw[HT.sIx_nat,HT.sIx_none,Nat.min_eq_left h,List.take_of_length_le (by simp)]
structure OwnP (H:Hp) (fa:Addr) (as:List Addr) (p:List (List Int)):Prop where
 at':H fa=some (.lst (as.map V.ref))
 len:as.length=p.length
 row:∀(i:Nat) a xs,as[i]?=some a→p[i]?=some xs→H a=some (.lst (xs.map V.int))
theorem OwnP.keep {H H':Hp}{fa:Addr}{as:List Addr}{p:List (List Int)} (o:OwnP H fa as p) (s:Same H H'):OwnP H' fa as p:=⟨s _ _ o.at',o.len,fun i a xs e1 e2=>s _ _ (o.row i a xs e1 e2)⟩
theorem OwnP.live {H:Hp}{fa:Addr}{as:List Addr}{p:List (List Int)} (o:OwnP H fa as p):∀a∈as,H a≠none:=fun a ha=>by
 obtain⟨i,hi,e⟩:=List.getElem_of_mem ha
 have hi2:i<p.length:=by rw[←o.len];exact hi
 rw[o.row i a _ (by rw[List.getElem?_eq_getElem hi,e]) (List.getElem?_eq_getElem hi2)]
 exact fun z=>by cases z
def butL {α:Type} (xs:List α) (i:Nat):List α:=xs.take i++xs.drop (i+1)
theorem Yy4 {as:List Addr} (nd:as.Nodup) {i:Nat}{a:Addr} (ha:as[i]?=some a):a∉butL as i:=fun z=>by
 unfold butL at z
 rcases List.mem_append.mp z with z|z
 ·obtain⟨j,hj,e⟩:=List.mem_iff_getElem.mp z
  rw[List.length_take]at hj
  rw[List.getElem_take]at e
  have:=Zq0 nd (i:=j) (j:=i) (by rw[List.getElem?_eq_getElem (by omega),e]) ha
  omega
 ·obtain⟨j,hj,e⟩:=List.mem_iff_getElem.mp z
  rw[List.length_drop]at hj
  rw[List.getElem_drop]at e
  have:=Zq0 nd (i:=i+1+j) (j:=i) (by rw[List.getElem?_eq_getElem (by omega),e]) ha
  omega
theorem Yz8 {H:Hp}:∀{as:List Addr}{p:List (List Int)},as.length=p.length→(∀(i:Nat) a xs,as[i]?=some a→p[i]?=some xs→H a=some (.lst (xs.map V.int)))→IsDs H (p.map dRow) (as.map V.ref):=fun {as p} hl hr=>by
 refine Ql2 (by rw[List.length_map,List.length_map,hl]) fun i d x e1 e2=>?_
 rw[List.getElem?_map]at e1 e2
 cases q1:p[i]? with
 | none=>rw[q1]at e1;cases e1
 | some xs =>
  cases q2:as[i]? with
  | none=>rw[q2]at e2;cases e2
  | some a =>
   rw[q1]at e1;rw[q2]at e2
   cases e1;cases e2
   exact Qu9 (hr i a xs q2 q1)
theorem Xm8 {as:List Addr}{p:List (List Int)} (hl:as.length=p.length) {i j:Nat}{a:Addr}{xs:List Int} (e1:(butL as i)[j]?=some a) (e2:(butL p i)[j]?=some xs):∃m:Nat,as[m]?=some a∧p[m]?=some xs:=by
 unfold butL at e1 e2
 by_cases hj:j<(as.take i).length
 ·rw[List.getElem?_append_left hj]at e1
  rw[List.getElem?_append_left (by rw[List.length_take,←hl,←List.length_take];exact hj)]at e2
  rw[List.length_take]at hj
  rw[List.getElem?_take,if_pos (by omega)]at e1 e2
  exact⟨j,e1,e2⟩
 ·rw[List.getElem?_append_right (by omega)]at e1
  rw[List.getElem?_append_right (by rw[List.length_take,←hl,←List.length_take];omega)]at e2
  rw[List.getElem?_drop]at e1 e2
  have:(as.take i).length=(p.take i).length:=by rw[List.length_take,List.length_take,hl]
  rw[←this]at e2
  exact⟨_,e1,e2⟩
theorem Xq5 {α:Type} (xs:List α) (i:Nat) (hi:i<xs.length):(butL xs i).length=xs.length-1:=by
 unfold butL
 rw[List.length_append,List.length_take,List.length_drop]
 omega
theorem Yy5 {α β:Type} (f:α→β) (xs:List α) (i:Nat):(butL xs i).map f=butL (xs.map f) i:=by
 unfold butL
 rw[List.map_append,List.map_take,List.map_drop]
def Qc9:Sp:=fun vs H Q _=>∃(fa lo:Addr) (as:List Addr) (p:List (List Int)) (os:List (List (List Int))) (ovs:List V),vs=[.ref fa,.ref lo]∧OwnP H fa as p∧as.Nodup∧fa∉as∧H lo=some (.lst ovs)∧lo∉as∧IsDs (hide as H) (os.map Qk6) ovs∧p.length≤4∧(∀xs∈p,xs.length≤4)∧os.length≤1∧(∀o∈os,o.length≤4)∧∀H',Q (.bl true) H'
theorem Zo7 (os:List (List (List Int))):Qy5 (.lst (os.map Qk6))≤20:=by
 rw[Qo1]
 have:=Xx9 (f:=Qk6) (n:=2) Zb2 os
 omega
theorem Qr0:FnScope ["picture","others","kept","at","rest"] ["picture","others"] (Qz0 Qf0):=⟨rfl,rfl,rfl,by decide +kernel,rfl,by decide +kernel,by decide +kernel⟩
theorem Zn7 {f:Addr}{fd:FuncData} (F:Fun K "_law_own_rows" "_law_own_rows" Qf0 f fd) (B:Bt mg):FnOk P w K mg base CX0 1 f fd ["picture","others"] Qc9:=by
 refine F.ok Qr0 (fun vs H Q E h=>?_) (fun cdv A outer s H vs Q E hr h=>?_)
 ·obtain⟨fa,lo,as,p,os,ovs,rfl,_⟩:=h
  rfl
 ·obtain⟨fa,lo,as,p,os,ovs,rfl,op,nd,nfa,hlo,nlo,hod,hp4,hx4,ho1,ho4,k⟩:=h
  have hu:=Qt0 hr
  refine⟨_,(Qq4 (Qf5 (i:=2) ["one"] [] Qr0.nd rfl rfl ⟨rfl,rfl,rfl,rfl,rfl⟩ rfl (Qw2 K (pv 1)) (fun _ _ _ _ _=>(Qx3 (i:=0) (show (["one"]:List Str).Nodup by decide +kernel) rfl (Or.inl rfl))) (fun _ _ _ _ _=>Qw5 (Qp5 ["row"] [] ⟨rfl,rfl,rfl,rfl,rfl⟩ rfl (Qw2 K (pv 0)) (fun _ _ _ _ _=>(Qx3 (i:=0) (show (["row"]:List Str).Nodup by decide +kernel) rfl (Or.inl rfl))) (fun _ _ _ _ _=>Qw5 (Qv0 (Qb6 K) rfl B.list Qm4 (Qq0 (pv 0) Qq3))))))
   (Qq4 (Qf3 PassesOwn.never rfl (Qy8 rfl B.range (Qq0 (Qx0 (Qx5 K) rfl B.len Qj3 (Qq0 (pv 0) Qq3)) Qq3)) (Qx3 (i:=3) Qr0.nd rfl (Or.inl rfl))
   (Qq4 (Qf5 (i:=4) ["row"] [] Qr0.nd rfl rfl ⟨rfl,rfl,rfl,rfl,rfl⟩ rfl (Qw2 K (Qz7 Zy9 (Qa9 (Zk7 K) (pv 0) Zj2 (Zj3 (pv 3))) (Qa9 (Zk7 K) (pv 0) (Zj3 (Qz7 Qy1 (pv 3) Qq6)) Zj2))) (fun _ _ _ _ _=>(Qx3 (i:=0) (show (["row"]:List Str).Nodup by decide +kernel) rfl (Or.inl rfl))) (fun _ _ _ _ _=>Qw5 (Qv0 (Qb6 K) rfl B.list Qm4 (Qq0 (pv 0) Qq3))))
   (Qq4 (Qh8 (Qs7 PySem.F.plainAttrs_list PySem.F.slot_list_append PySem.F.type_list_append Qd3 (Qx1 (Qk0 K) (pv 0) (pv 3) (fun _ _=>rfl)) (Qq0 Qq6 Qq3)))
   (Qq4 (Qk1 (PW.pt (Ql5 (Qz8 (Zi8 hu) (Qz7 Zy9 (Qa9 (Zk7 K) (pv 0) Zj2 (Zj3 (pv 3))) (Qa9 (Zk7 K) (pv 0) (Zj3 (Qz7 Qy1 (pv 3) Qq6)) Zj2)) (pv 4) (Qx2 _)) (Qr1 (Qz8 (Zi8 hu) (pv 1) (pv 2) (Qx2 _)))))
   (Qq8 (Qz9 Zz5))
   Qx8)
   (Qq8 (Qh8 (Yh1 PySem.F.plainAttrs_list PySem.F.slot_list_pop PySem.F.type_list_pop Yh2 (Qx1 (Qk0 K) (pv 0) (pv 3) (fun _ _=>rfl)))))))))
   (Qq8 (Qz9 Zz5)))),?_⟩
  have hbig:100≤sizeLine:=by decide
  have live:=op.live
  have hovl:ovs.length=os.length:=Zj6 hod
  have nas:∀{H':Hp}{a:Addr},Same H H'→H' a=none→a∉as:=fun s ha z=>by
   have:=live _ z
   cases q:H _ with
   | none=>exact this q
   | some o=>rw[s _ _ q]at ha;cases ha
  refine⟨_,rfl,lo,rfl,⟨_,SqL.of hlo⟩,Qw0 (K:=K) (a:=lo) (xs:=ovs) (fun j ys H2=>Same H H2∧IsDs (hide as H2) ((os.take j).map Qk6) ys) ⟨Same.refl _,Ql4 _⟩ ?_ ?_ ?_ ?_ ?_⟩
  ·omega
  ·rintro j ys H2 ⟨_,hd⟩
   have:=hd.length
   rw[List.length_map,List.length_take]at this
   omega
  ·rintro j ys H2 _ ⟨s2,_⟩
   exact SqL.of (s2 _ _ hlo)
  ·rintro j y ys H2 hj ⟨s2,hd2⟩
   obtain⟨o,ho,hoD⟩:=Zv1 hod hj
   obtain⟨oa,rvs,rfl,hoa,hrv⟩:=Xt5 hoD
   have hrl:=Zj6 hrv
   have ho4':=ho4 o (List.mem_of_getElem? ho)
   refine⟨rfl,?_⟩
   refine⟨_,rfl,oa,rfl,⟨_,SqL.of (s2 _ _ (Qt1 _ _ hoa))⟩,Qw0 (K:=K) (a:=oa) (xs:=rvs) (fun m zs H3=>Same H2 H3∧IsDs (hide as H3) ((o.take m).map dRow) zs) ⟨Same.refl _,Ql4 _⟩ ?_ ?_ ?_ ?_ ?_⟩
   ·omega
   ·rintro m zs H3 ⟨_,hd⟩
    have:=hd.length
    rw[List.length_map,List.length_take]at this
    omega
   ·rintro m zs H3 _ ⟨s3,_⟩
    exact SqL.of (s3 _ _ (s2 _ _ (Qt1 _ _ hoa)))
   ·rintro m z zs H3 hm ⟨s3,hd3⟩
    obtain⟨xs,hx,hxd⟩:=Zv1 hrv hm
    obtain⟨xa,rfl,hxa⟩:=Zj4 hxd
    refine⟨rfl,?_⟩
    refine⟨_,rfl,xa,_,rfl,.inl (SqL.of (s3 _ _ (s2 _ _ (Qt1 _ _ hxa)))),fun l1 hl1=>?_⟩
    have s4:Same H3 (upd H3 l1 (.lst (xs.map V.int))):=Qq5 hl1
    refine⟨s3.trans s4,?_⟩
    rw[List.take_add_one,hx,List.map_append]
    exact IsDs.snoc (IsDs.mono (Qc0 s4) hd3) (Qu9 (Qr5 Qq1 (nas (s2.trans s3) hl1)))
   ·rintro zs H3 ⟨s3,hd3⟩ l1 hl1
    rw[hrl,List.take_length]at hd3
    have s4:Same H3 (upd H3 l1 (.lst zs)):=Qq5 hl1
    refine⟨s2.trans (s3.trans s4),?_⟩
    rw[List.take_add_one,ho,List.map_append]
    exact IsDs.snoc (IsDs.mono (Qc0 (s3.trans s4)) hd2) (Zj5 (Qr5 Qq1 (nas (s2.trans s3) hl1)) (IsDs.mono (Qc0 s4) hd3))
  rintro kvs H2' ⟨s2',hkd'⟩ kp hkp
  rw[hovl,List.take_length]at hkd'
  have nkp:kp∉as:=nas s2' hkp
  have s2:Same H (upd H2' kp (.lst kvs)):=s2'.trans (Qq5 hkp)
  have hkp2:(upd H2' kp (.lst kvs)) kp=some (.lst kvs):=Qq1
  have hkd:IsDs (hide as (upd H2' kp (.lst kvs))) (os.map Qk6) kvs:=IsDs.mono (Qc0 (Qq5 hkp)) hkd'
  show Qu5 2 (V.ref kp) _ (upd H2' kp (.lst kvs)) _
  generalize upd H2' kp (.lst kvs)=H2 at s2 hkp2 hkd ⊢
  have op2:=op.keep s2
  refine⟨_,rfl,fa,_,rfl,.inl (SqL.of op2.at'),((as.map V.ref).length:Int),rfl,by rw[List.length_map,op.len];omega,by rw[List.length_map,op.len];omega,Qn0 (lo:=0) (n:=(((as.map V.ref).length:Nat):Int).toNat) (fun i σ H3=>∃(o3 o4:Option V),σ=[some (.ref fa),some (.ref lo),some (.ref kp),o3,o4]∧Same (hide as H2) (hide as H3)∧OwnP H3 fa as p) ⟨none,none,rfl,Same.refl _,op2⟩ ?_ ?_⟩
  ·intro Pw mw
   rintro i σ H3 hi ⟨o3,o4,rfl,s3,op3⟩
   have e0:(0:Int)+(i:Nat)=(i:Nat):=Int.zero_add _
   rw[e0]
   have hal:(as.map V.ref).length=as.length:=List.length_map _
   have hi':i<as.length:=by rw[Int.toNat_natCast,hal]at hi;exact hi
   have hip:i<p.length:=by rw[←op.len];exact hi'
   have has4:as.length≤4:=by rw[op.len];exact hp4
   obtain⟨a,ha⟩:∃a,as[i]?=some a:=⟨_,List.getElem?_eq_getElem hi'⟩
   obtain⟨xs,hxs⟩:∃xs,p[i]?=some xs:=⟨_,List.getElem?_eq_getElem hip⟩
   have ham:a∈as:=List.mem_of_getElem? ha
   have hx4':=hx4 xs (List.mem_of_getElem? hxs)
   have e1:((i:Nat):Int)+1=((i+1:Nat):Int):=by omega
   have hcat:(as.map V.ref).take i++(as.map V.ref).drop (i+1)=(butL as i).map V.ref:=(Yy5 V.ref as i).symm
   have live3:=op3.live
   have nas3:∀{H':Hp}{y:Addr},(∀z∈as,H' z≠none)→H' y=none→y∉as:=fun g hy z=>g _ z hy
   refine⟨_,rfl,_,rfl,_,rfl,fa,_,rfl,SqL.of op3.at',fun p1 hp1=>?_⟩
   rw[Xh8 (by rw[hal];omega)]
   have t1:Same H3 (upd H3 p1 (.lst ((as.map V.ref).take i))):=Qq5 hp1
   have hp1':(upd H3 p1 (.lst ((as.map V.ref).take i))) p1=some (.lst ((as.map V.ref).take i)):=Qq1
   generalize upd H3 p1 (.lst ((as.map V.ref).take i))=H4 at t1 hp1' ⊢
   refine⟨_,rfl,_,rfl,_,_,rfl,rfl,_,rfl,fa,_,rfl,SqL.of (t1 _ _ op3.at'),fun p2 hp2=>?_⟩
   rw[show cutV (as.map V.ref) (some (((i:Nat):Int)+1)) none=(as.map V.ref).drop (i+1) by rw[e1];exact Xh9 (by rw[hal];omega)]
   have t2:Same H4 (upd H4 p2 (.lst ((as.map V.ref).drop (i+1)))):=Qq5 hp2
   have hp2':(upd H4 p2 (.lst ((as.map V.ref).drop (i+1)))) p2=some (.lst ((as.map V.ref).drop (i+1))):=Qq1
   generalize upd H4 p2 (.lst ((as.map V.ref).drop (i+1)))=H5 at t2 hp2' ⊢
   refine⟨p1,p2,_,_,rfl,rfl,t2 _ _ hp1',hp2',by rw[List.length_take,List.length_drop,hal];omega,fun p3 hp3=>?_⟩
   rw[hcat]
   have t3:Same H5 (upd H5 p3 (.lst ((butL as i).map V.ref))):=Qq5 hp3
   have hp3':(upd H5 p3 (.lst ((butL as i).map V.ref))) p3=some (.lst ((butL as i).map V.ref)):=Qq1
   generalize upd H5 p3 (.lst ((butL as i).map V.ref))=H6 at t3 hp3' ⊢
   have s36:Same H3 H6:=t1.trans (t2.trans t3)
   have op6:=op3.keep s36
   have hbl:(butL as i).length=(butL p i).length:=by rw[Xq5 _ _ hi',Xq5 _ _ hip,op.len]
   refine⟨p3,rfl,⟨_,SqL.of hp3'⟩,Qw0 (K:=K) (a:=p3) (xs:=(butL as i).map V.ref) (fun m zs H7=>Same H6 H7∧IsDs (hide as H7) (((butL p i).take m).map dRow) zs) ⟨Same.refl _,Ql4 _⟩ ?_ ?_ ?_ ?_ ?_⟩
   ·rw[List.length_map,Xq5 _ _ hi'];omega
   ·rintro m zs H7 ⟨_,hd⟩
    have:=hd.length
    rw[List.length_map,List.length_take]at this
    omega
   ·rintro m zs H7 _ ⟨s7,_⟩
    exact SqL.of (s7 _ _ hp3')
   ·rintro m z zs H7 hm ⟨s7,hd7⟩
    rw[List.getElem?_map]at hm
    obtain⟨ya,hya,rfl⟩:∃ya,(butL as i)[m]?=some ya∧z=.ref ya:=by
     cases q:(butL as i)[m]? with
     | none=>rw[q]at hm;cases hm
     | some ya=>rw[q]at hm;cases hm;exact⟨ya,rfl,rfl⟩
    have hml:m<(butL p i).length:=by rw[←hbl];exact(List.getElem?_eq_some_iff.mp hya).1
    obtain⟨ys,hys⟩:∃ys,(butL p i)[m]?=some ys:=⟨_,List.getElem?_eq_getElem hml⟩
    obtain⟨m',g1,g2⟩:=Xm8 op.len hya hys
    refine⟨rfl,?_⟩
    refine⟨_,rfl,ya,_,rfl,.inl (SqL.of (s7 _ _ (op6.row m' ya ys g1 g2))),fun l1 hl1=>?_⟩
    have s8:Same H7 (upd H7 l1 (.lst (ys.map V.int))):=Qq5 hl1
    refine⟨s7.trans s8,?_⟩
    rw[List.take_add_one,hys,List.map_append]
    exact IsDs.snoc (IsDs.mono (Qc0 s8) hd7) (Qu9 (Qr5 Qq1 (nas3 (op6.keep s7).live hl1)))
   rintro zs H7 ⟨s7,hd7⟩ lr hlr
   rw[List.length_map,hbl,List.take_length]at hd7
   have nlr:lr∉as:=nas3 (op6.keep s7).live hlr
   have s8:Same H7 (upd H7 lr (.lst zs)):=Qq5 hlr
   have hlr8:(upd H7 lr (.lst zs)) lr=some (.lst zs):=Qq1
   show Qu5 4 (V.ref lr) _ (upd H7 lr (.lst zs)) _
   generalize upd H7 lr (.lst zs)=H8 at s8 hlr8 ⊢
   have s38:Same H3 H8:=s36.trans (s7.trans s8)
   have op8:=op3.keep s38
   have hrest8:IsD (hide as H8) (Qk6 (butL p i)) (.ref lr):=Zj5 (Qr5 hlr8 nlr) (IsDs.mono (Qc0 s8) hd7)
   have hai:(as.map V.ref)[i]?=some (.ref a):=by rw[List.getElem?_map,ha];rfl
   have hxa8:=op8.row i a xs ha hxs
   refine⟨_,rfl,_,rfl,fa,_,_,.ref a,rfl,rfl,SqL.of op8.at',Qx7 hai,.inl ⟨rfl,_,SqL.of hxa8⟩,a,_,_,rfl,rfl,hxa8,by rw[List.length_map];omega,?_⟩
   have k9:Qz2 H8 (upd H8 a (.lst (xs.map V.int++[.int 2]))) [a]:=Qn3 (by simp)
   have hxa9:(upd H8 a (.lst (xs.map V.int++[.int 2]))) a=some (.lst (xs.map V.int++[.int 2])):=Qq1
   have h89:Same (hide as H8) (hide as (upd H8 a (.lst (xs.map V.int++[.int 2])))):=Qs5 (Qn3 ham)
   generalize upd H8 a (.lst (xs.map V.int++[.int 2]))=H9 at k9 hxa9 h89 ⊢
   have hfa9:H9 fa=some (.lst (as.map V.ref)):=k9 _ _ op8.at' (by simpa using fun e=>nfa (by rw[e];exact ham))
   have h29:Same (hide as H2) (hide as H9):=s3.trans ((Qc0 s38).trans h89)
   refine⟨_,rfl,_,rfl,_,rfl,fa,_,rfl,SqL.of hfa9,fun q1 hq1=>?_⟩
   rw[Xh8 (by rw[hal];omega)]
   have u1:Same H9 (upd H9 q1 (.lst ((as.map V.ref).take i))):=Qq5 hq1
   have hq1':(upd H9 q1 (.lst ((as.map V.ref).take i))) q1=some (.lst ((as.map V.ref).take i)):=Qq1
   generalize upd H9 q1 (.lst ((as.map V.ref).take i))=H10 at u1 hq1' ⊢
   refine⟨_,rfl,_,rfl,_,_,rfl,rfl,_,rfl,fa,_,rfl,SqL.of (u1 _ _ hfa9),fun q2 hq2=>?_⟩
   rw[show cutV (as.map V.ref) (some (((i:Nat):Int)+1)) none=(as.map V.ref).drop (i+1) by rw[e1];exact Xh9 (by rw[hal];omega)]
   have u2:Same H10 (upd H10 q2 (.lst ((as.map V.ref).drop (i+1)))):=Qq5 hq2
   have hq2':(upd H10 q2 (.lst ((as.map V.ref).drop (i+1)))) q2=some (.lst ((as.map V.ref).drop (i+1))):=Qq1
   generalize upd H10 q2 (.lst ((as.map V.ref).drop (i+1)))=H11 at u2 hq2' ⊢
   refine⟨q1,q2,_,_,rfl,rfl,u2 _ _ hq1',hq2',by rw[List.length_take,List.length_drop,hal];omega,fun q3 hq3=>?_⟩
   rw[hcat]
   have u3:Same H11 (upd H11 q3 (.lst ((butL as i).map V.ref))):=Qq5 hq3
   have hq3':(upd H11 q3 (.lst ((butL as i).map V.ref))) q3=some (.lst ((butL as i).map V.ref)):=Qq1
   generalize upd H11 q3 (.lst ((butL as i).map V.ref))=H12 at u3 hq3' ⊢
   have s912:Same H9 H12:=u1.trans (u2.trans u3)
   have hbut:IsD H12 (Qk6 (butL p i)) (.ref q3):=Zj5 hq3' (Yz8 hbl fun m ya ys g1 g2=>by
    obtain⟨m',e1,e2⟩:=Xm8 op.len g1 g2
    have nya:ya∉[a]:=fun z=>Yy4 nd ha (by rw[←List.mem_singleton.mp z];exact List.mem_of_getElem? g1)
    exact s912 _ _ (k9 _ _ (op8.row m' ya ys e1 e2) nya))
   refine⟨_,rfl,Qk6 (butL p i),Qk6 (butL p i),hbut,IsD.mono (h89.trans (Qt1.trans s912)) hrest8,.inl ⟨_,_,rfl,rfl⟩,Nat.le_trans (Zb2 _) (by decide),_,rfl,?_⟩
   rw[Qc8]
   refine iteF ?_
   have h212:Same (hide as H2) H12:=h29.trans (Qt1.trans s912)
   refine⟨_,rfl,_,rfl,.lst (os.map Qk6),.lst (os.map Qk6),?_,?_,.inl ⟨_,_,rfl,rfl⟩,Zo7 os,_,rfl,?_⟩
   ·unfold IsD
    exact⟨lo,ovs,rfl,h212 _ _ (Qr5 (s2 _ _ hlo) nlo),IsDs.mono ((Qc0 s2).trans h212) hod⟩
   ·unfold IsD
    exact⟨kp,kvs,rfl,h212 _ _ (Qr5 hkp2 nkp),IsDs.mono h212 hkd⟩
   rw[Qc8]
   refine iteF ?_
   have hlast:(xs.map V.int++[V.int 2])[(xs.map V.int++[V.int 2]).length-1]?=some (V.int 2):=by
    rw[List.length_append,List.length_singleton,Nat.add_sub_cancel,List.getElem?_append_right (Nat.le_refl _),Nat.sub_self]
    rfl
   refine⟨_,rfl,_,rfl,fa,_,_,.ref a,rfl,rfl,SqL.of (s912 _ _ hfa9),Qx7 hai,.inl ⟨rfl,_,SqL.of (s912 _ _ hxa9)⟩,a,_,_,rfl,rfl,s912 _ _ hxa9,hlast,?_⟩
   rw[List.dropLast_concat]
   refine mw _ _ _ ⟨_,_,rfl,h29.trans ((Qc0 s912).trans (Qs5 (Qn3 ham))),?_,op.len,fun m ya ys g1 g2=>?_⟩
   ·rw[Qz1 (fun e=>nfa (by rw[e];exact ham))]
    exact s912 _ _ hfa9
   ·by_cases e:ya=a
    ·subst e
     have:m=i:=Zq0 nd g1 ha
     subst this
     rw[hxs]at g2
     cases g2
     exact Qq1
    ·rw[Qz1 e]
     exact s912 _ _ (k9 _ _ (op8.row m ya ys g1 g2) (by simpa using e))
  ·rintro σ H3 ⟨o3,o4,rfl,_⟩
   exact k _
end
section
variable {P:Program}{w:World}{K:PySem.W.Frag}{mg:Str→Option Value}{base:Heap}{C:Addr}
def Zo8 (K:PySem.W.Frag):Sp:=fun vs H Q _=>∃(a:Addr) (ns:List Int),vs=[.ref a]∧SqL K H a (ns.map V.int)∧ns.length≤63∧∀H',Q (.bl true) H'
theorem Zn8 {f:List Int→Dt} (hf:∀a b,eqD (f a) (f b)=decide (a=b)):∀(a b:List (List Int)),eqDs (a.map f) (b.map f)=decide (a=b)
 | [],[]=>by simp[eqDs]
 | [],_::_=>by simp[eqDs]
 | _::_,[]=>by simp[eqDs]
 | x::a,y::b=>by
  rw[List.map_cons,List.map_cons]
  unfold eqDs
  rw[Zn8 hf a b,hf]
  by_cases h:x=y
  ·subst h
   simp
  ·rw[decide_eq_false h,Bool.false_and]
   exact(decide_eq_false (fun z=>h (List.cons.inj z).1)).symm
theorem Yz9 (a b:List (List Int)):eqD (Qk6 a) (Qk6 b)=decide (a=b):=by unfold Qk6;rw[Zf8,Zn8 Xm0]
theorem Zh4 {H:Hp}{lp:Addr}{ps:List Pc} (pc:PcP H lp ps) {p:Pc} (hp:p∈ps):IsD H (Qk6 (picZ p.v)) (.ref p.l):=by
 obtain⟨h1,h2,h3⟩:=pc.con p hp
 refine Zj5 h1 (Ql2 (by rw[List.length_map,List.length_map,h2]) fun i d x e1 e2=>?_)
 rw[List.getElem?_map]at e1 e2
 cases q1:(picZ p.v)[i]? with
 | none=>rw[q1]at e1;cases e1
 | some xs =>
  cases q2:p.as[i]? with
  | none=>rw[q2]at e2;cases e2
  | some a =>
   rw[q1]at e1;rw[q2]at e2
   cases e1;cases e2
   exact Qu9 (h3 i a xs q2 q1)
theorem Xb0 (a b:List (List Int)):eqD (Ql7 a) (Ql7 b)=decide (a=b):=by unfold Ql7;rw[Zg0,Zn8 Xf9]
theorem Xt8 (a b:Brd):eqD (Qv8 a) (Qv8 b)=decide (a=b):=by
 unfold Qv8
 rw[Zg0]
 simp only[eqDs]
 rw[Xb0,Xb0,Bool.and_true]
 by_cases h:a=b
 ·subst h;simp
 ·rw[decide_eq_false h]
  by_cases h1:a.1=b.1
  ·have h2:¬a.2=b.2:=fun e=>h (Prod.ext h1 e)
   rw[decide_eq_false h2,Bool.and_false]
  ·rw[decide_eq_false h1,Bool.false_and]
theorem Yy6 {H:Hp}{lp:Addr}{ps:List Pc}{M:List Addr} (pc:PcP H lp ps) {p:Pc} (hp:p∈ps) (hM:∀a∈pcAd p,a∉M):IsD (hide M H) (Qk6 (picZ p.v)) (.ref p.l):=by
 obtain⟨h1,h2,h3⟩:=pc.con p hp
 refine Zj5 (Qr5 h1 (hM _ (by unfold pcAd;simp))) (Ql2 (by rw[List.length_map,List.length_map,h2]) fun i d x e1 e2=>?_)
 rw[List.getElem?_map]at e1 e2
 cases q1:(picZ p.v)[i]? with
 | none=>rw[q1]at e1;cases e1
 | some xs =>
  cases q2:p.as[i]? with
  | none=>rw[q2]at e2;cases e2
  | some a =>
   rw[q1]at e1;rw[q2]at e2
   cases e1;cases e2
   exact Qu9 (Qr5 (h3 i a xs q2 q1) (hM _ (by unfold pcAd;simp[List.mem_of_getElem? q2])))
theorem Xt9 {H:Hp}{lp:Addr}{ps:List Pc} (pc:PcP H lp ps) {p:Pc} (hp:p∈ps):OwnP H p.l p.as (picZ p.v):=by
 obtain⟨h1,h2,h3⟩:=pc.con p hp
 exact⟨h1,h2,h3⟩
theorem Yx0 {h w:Nat}{pic:List (List Int)} (o:POk h w pic) (hh:h≤4) (hw:w≤4):FitP h w (Qe9 pic w) pic:=by
 refine⟨o,fun l hl=>?_⟩
 rw[Qt3 (Zo2 o hh hw).ok hl]
 unfold Zx8 Qe9
 rcases hl with ⟨h1,h2⟩|⟨h1,h2⟩
 ·rw[if_pos h1,if_pos h1]
  exact(Qz4 (by rw[List.getElem?_map,(o.row h2).1];rfl)).symm
 ·rw[if_neg (by omega),if_neg (by omega)]
  exact(Qz4 (by rw[List.getElem?_map,List.getElem?_range h2];rfl)).symm
theorem Zq9:FnScope ["script","cell","picture","board","other","found","empty"] ["script"] (Qz0 Zx4):=⟨rfl,rfl,rfl,by decide +kernel,rfl,by decide +kernel,by decide +kernel⟩
theorem Yp1 {f:Addr}{fd:FuncData} (F:Fun K "law" "law" Zx4 f fd) (B:Bt mg) (c__law_cell_at:Callee P w K mg base CX0 "_law_cell_at" 1 ["script","k"] (Qt9 K)) (c__law_picture:Callee P w K mg base CX0 "_law_picture" 2 ["cell","rows","columns"] Qa1) (c__law_board:Callee P w K mg base CX0 "_law_board" 3 ["picture"] Zb8)
  (c__law_any_board:Callee P w K mg base CX0 "_law_any_board" 2 ["cell","board"] Qn6) (c__law_is_picture:Callee P w K mg base CX0 "_law_is_picture" 4 ["found","board"] Qp3) (c__law_leaves:Callee P w K mg base CX0 "_law_leaves" 22 ["board","tree","rows"] (Zq8 16)) (c__law_own_rows:Callee P w K mg base CX0 "_law_own_rows" 1 ["picture","others"] Qc9)
  (c_judged:Callee P w K mg base CX0 "judged" 39 ["board"] Zd0):FnOk P w K mg base CX0 40 f fd ["script"] (Zo8 K):=by
 refine F.ok Zq9 (fun vs H Q E h=>?_) (fun cdv A outer s H vs Q E hr h=>?_)
 ·obtain⟨a,ns,rfl,_⟩:=h
  rfl
 ·obtain⟨a,ns,rfl,hS,hl,k⟩:=h
  have hu:=Qt0 hr
  refine⟨_,(Qq4 (Qz6 (i:=1) Zq9.nd rfl (Or.inl rfl) (Qj6 c__law_cell_at hr (Qq0 (pv 0) (Qq0 Qq6 Qq3))))
   (Qq4 (Qz6 (i:=2) Zq9.nd rfl (Or.inl rfl) (Qj6 c__law_picture hr (Qq0 (Qj6 c__law_cell_at hr (Qq0 (pv 0) (Qq0 Qq6 Qq3))) (Qq0 (Qz7 Qy1 Qq6 (Qz7 Ql8 (pv 1) Qq6)) (Qq0 (Qz7 Qy1 Qq6 (Qz7 Ql8 (Qz7 Ze0 (pv 1) Qq6) Qq6)) Qq3)))))
   (Qq4 (Qz6 (i:=3) Zq9.nd rfl (Or.inl rfl) (Qj6 c__law_board hr (Qq0 (pv 2) Qq3)))
   (Qq4 (Qz6 (i:=4) Zq9.nd rfl (Or.inl rfl) (pv 3))
   (Qs4 (Qk1 (Qz8 Zi0 (Qz7 Ql8 (Qz7 Ze0 (pv 1) Qq6) Qq6) Qq6 (Qx2 _))
   (Qq8 (Qz6 (i:=4) Zq9.nd rfl (Or.inl rfl) (Qj6 c__law_any_board hr (Qq0 (Qj6 c__law_cell_at hr (Qq0 (pv 0) (Qq0 Qq6 Qq3))) (Qq0 (pv 3) Qq3)))))
   Qx8)
   (Qq4 (Qz6 (i:=5) Zq9.nd rfl (Or.inl rfl) (Qj6 c_judged hr (Qq0 (pv 4) Qq3)))
   (Qq4 (Qk1 (PW.pt (Ql5 (Qr2 (Qt5 (Qx0 (Qt8 K) rfl B.isinstance Qu8 (Qq0 (pv 5) (Qq0 (Zj0 (v:=.ty "tuple") rfl B.tuple Ql1 rfl) Qq3))))) (Qr1 (Qz8 Zw2 (Qx0 (Qx5 K) rfl B.len Qj3 (Qq0 (pv 5) Qq3)) Qq6 (Qx2 _)))))
   (Qq8 (Qz9 Zz5))
   Qx8)
   (Qq4 (Qk1 (Qz8 Qb5 (Qx1 (Qx6 K) (pv 5) Qq6 (fun _ _=>rfl)) Qy7 (Qx2 _))
   (Qq4 (Qk1 (PW.pt (Ql5 (Qz8 Qt6 (Qx0 (Qx5 K) rfl B.len Qj3 (Qq0 (pv 5) Qq3)) Qq6 (Qx2 _)) (Ql5 (Qr2 (Qt5 (Qj6 c__law_is_picture hr (Qq0 (Qx1 (Qx6 K) (pv 5) Qq6 (fun _ _=>rfl)) (Qq0 (pv 4) Qq3))))) (Qr1 (Qr2 (Qt5 (Qj6 c__law_is_picture hr (Qq0 (Qx1 (Qx6 K) (pv 5) Qq6 (fun _ _=>rfl)) (Qq0 (pv 4) Qq3)))))))))
   (Qq8 (Qz9 Zz5))
   Qx8)
   (Qq8 (Qz9 (Xv7 (Zj1 (Zi8 hu) (Qx1 (Qx6 K) (pv 5) Qq6 (fun _ _=>rfl)) (Qx1 (Qx6 K) (pv 5) Qq6 (fun _ _=>rfl)) (Qx2 _)) (Xv6 (Qj6 c__law_own_rows hr (Qq0 (Qx1 (Qx6 K) (pv 5) Qq6 (fun _ _=>rfl)) (Qq0 (Qv7 (Qq0 (Qx1 (Qx6 K) (pv 5) Qq6 (fun _ _=>rfl)) Qq3)) Qq3))))))))
   Qx8)
   (Qq4 (Qf5 (i:=6) ["row"] [] Zq9.nd rfl rfl ⟨rfl,rfl,rfl,rfl,rfl⟩ rfl (Qw2 K (pv 2)) (fun _ _ _ _ _=>(Qx3 (i:=0) (show (["row"]:List Str).Nodup by decide +kernel) rfl (Or.inl rfl))) (fun _ _ _ _ _=>Qw5 (Qp5 ["at"] [] ⟨rfl,rfl,rfl,rfl,rfl⟩ rfl (Qw2 K (pv 0)) (fun _ _ _ _ _=>(Qx3 (i:=0) (show (["at"]:List Str).Nodup by decide +kernel) rfl (Or.inl rfl))) (fun _ _ _ _ _=>Qw5 Qg4))))
   (Qq4 (Qk1 (Qz8 Qb5 (Qx1 (Qx6 K) (pv 5) Qq6 (fun _ _=>rfl)) Qy7 (Qx2 _))
   (Qq4 (Qk1 (PW.pt (Ql5 (Qz8 Qt6 (Qx0 (Qx5 K) rfl B.len Qj3 (Qq0 (pv 5) Qq3)) Qq6 (Qx2 _)) (Qr1 (Qr2 (Qt5 (Qj6 c__law_is_picture hr (Qq0 (Qx1 (Qx6 K) (pv 5) Qq6 (fun _ _=>rfl)) (Qq0 (pv 4) Qq3))))))))
   (Qq8 (Qz9 Zz5))
   Qx8)
   (Qq8 (Qz9 (Xv7 (Zj1 (Zg1 hu) (Qj6 c__law_leaves hr (Qq0 (pv 4) (Qq0 (Qx1 (Qx6 K) (pv 5) Qq6 (fun _ _=>rfl)) (Qq0 (pv 6) Qq3)))) (Qv7 (Qq0 (Qx1 (Qx6 K) (pv 5) Qq6 (fun _ _=>rfl)) Qq3)) (Qx2 _)) (Xv6 (Qj6 c__law_own_rows hr (Qq0 (Qx1 (Qx6 K) (pv 5) Qq6 (fun _ _=>rfl)) (Qq0 (Qv7 Qq3) Qq3))))))))
   Qx8)
   (Qq4 (Qk1 (PW.pt (Ql5 (Qz8 Qt6 (Qx1 (Qx6 K) (pv 5) Qq6 (fun _ _=>rfl)) Qy7 (Qx2 _)) (Ql5 (Qz8 Qt6 (Qx0 (Qx5 K) rfl B.len Qj3 (Qq0 (pv 5) Qq3)) Qq6 (Qx2 _)) (Qr1 (Qz8 (Zg1 hu) (pv 4) (pv 3) (Qx2 _))))))
   (Qq8 (Qz9 Zz5))
   Qx8)
   (Qq8 (Qz9 (Zj1 (Zg1 hu) (Qj6 c__law_leaves hr (Qq0 (pv 4) (Qq0 (Qx1 (Qx6 K) (pv 5) Qq6 (fun _ _=>rfl)) (Qq0 (pv 6) Qq3)))) (Qv7 Qq3) (Qx2 _))))))))))))))),?_⟩
  have hbig:100≤sizeLine:=by decide
  refine⟨_,rfl,a,ns,0,rfl,hS,?_⟩
  generalize hc0:Qi0 ns 0=c0
  obtain⟨r,hr0⟩:∃r:Nat,1+c0%4=r:=⟨(1+c0%4).toNat,by omega⟩
  obtain⟨wd,hw0⟩:∃wd:Nat,1+c0/4%4=wd:=⟨(1+c0/4%4).toNat,by omega⟩
  have hr4:1≤r∧r≤4:=by omega
  have hw4:1≤wd∧wd≤4:=by omega
  refine⟨_,rfl,a,ns,1,rfl,hS,_,rfl,_,_,rfl,rfl,pz rfl,_,_,rfl,rfl,_,rfl,_,_,rfl,rfl,⟨by decide,by decide⟩,_,_,rfl,rfl,pz rfl,_,_,rfl,rfl,Qi0 ns 1,r,wd,(show [V.int (Qi0 ns 1),V.int (1+c0%4),V.int (1+c0/4%4)]=[V.int (Qi0 ns 1),V.int (r:Nat),V.int (wd:Nat)] by rw[hr0,hw0]),by omega,by omega,fun pa H1 s1 npa hpa=>?_⟩
  have po:=Yp0 (Qi0 ns 1) r wd
  generalize Rp.picZ (Qi0 ns 1) r wd=pic at hpa po ⊢
  have hpl:=po.len
  refine⟨_,rfl,pa,pic,wd,rfl,hpa,by omega,by omega,by omega,po.wid,fun tb0 H2 s2 htb0=>?_⟩
  have bo0:=Zo2 po hr4.2 hw4.2
  have fit0:=Yx0 po hr4.2 hw4.2
  generalize Qe9 pic wd=b0 at htb0 bo0 fit0
  have s02:=s1.trans s2
  refine⟨_,rfl,?_⟩
  refine Yx7 (fun σ' H3=>∃(tb:Addr) (b:Brd),σ'=[some (.ref a),some (.int c0),some (.ref pa),some (.ref tb0),some (.ref tb),none,none]∧Same H2 H3∧IsD H3 (Qv8 b) (.ref tb)∧B2 r wd b) (fun J mJ=>?_) ?_
  ·refine⟨_,rfl,_,_,rfl,rfl,⟨by decide,by decide⟩,_,_,rfl,rfl,pz rfl,_,_,rfl,rfl,_,rfl,?_⟩
   refine ite2 (fun _=>?_) (fun _=>?_)
   ·exact⟨_,rfl,a,ns,2,rfl,s02.seq hS,_,rfl,Qi0 ns 2,tb0,b0,r,wd,rfl,htb0,bo0,by omega,by omega,by omega,by omega,fun t b' H3 s3 ht b2=>mJ _ _ ⟨t,b',rfl,s3,ht,b2⟩⟩
   ·exact mJ _ _ ⟨tb0,b0,rfl,Same.refl _,htb0,bo0⟩
  ·rintro σ' H3 ⟨tb,b,rfl,s3,htb,b2⟩
   have bok:=b2.ok
   refine⟨_,rfl,tb,b,r,wd,rfl,htb,b2.sm hr4.2 hw4.2,fun H4 tt t val ps lp s4 pc nw tv F htt=>?_⟩
   obtain⟨g1,g2,g3⟩:=Xt3 bok F
   have htb4:=IsD.mono s4 htb
   have gf:∀p∈ps,FitP r wd b (picZ p.v):=fun p hp=>(Zl5 bok).mp (g1 _ (List.mem_map.mpr ⟨p,hp,rfl⟩))
   have nda:∀p∈ps,p.as.Nodup∧p.l∉p.as:=fun p hp=>by
    have:(pcAd p).Nodup:=(List.pairwise_flatMap.mp pc.nd).1 p hp
    unfold pcAd at this
    exact⟨(List.nodup_cons.mp this).2,(List.nodup_cons.mp this).1⟩
   have pwid:∀p∈ps,(picZ p.v).length≤4∧∀xs∈picZ p.v,xs.length≤4:=fun p hp=>⟨by rw[(gf p hp).ok.len];exact hr4.2,fun xs hx=>by rw[(gf p hp).ok.wid xs hx];exact hw4.2⟩
   by_cases hps:ps.length≤1
   ·obtain⟨x,tl,ex,h1,h2⟩:∃x tl,ansV val ps=V.str x::tl∧1≤tl.length∧¬x = "several" := by
     cases ps with
     | nil=>exact⟨"none",[val],rfl,by simp,by decide +kernel⟩
     | cons p ps' =>
      cases ps' with
      | nil=>exact⟨"one",[.ref p.l,val],rfl,by simp,by decide +kernel⟩
      | cons q qs=>simp only[List.length_cons]at hps;omega
    have htt':=htt
    rw[ex]at htt'
    refine⟨_,rfl,_,_,_,true,rfl,fun _ z=>z,.tup htt',rfl,_,rfl,iteF ?_⟩
    refine⟨_,rfl,tt,_,rfl,.inr (SqT.of htt'),_,_,rfl,rfl,_,rfl,eF (by rw[List.length_cons];omega) ?_⟩
    refine⟨_,rfl,tt,_,_,.str x,rfl,rfl,SqT.of htt',Qx7 (j:=0) rfl,rfl,_,rfl,eF (Zd6 h2) ?_⟩
    obtain⟨pvs,hpv,hpd⟩:=Zb1 (IsD.mono (s2.trans (s3.trans s4)) hpa)
    have hpvl:pvs.length=r:=by rw[Qb0 hpd,hpl]
    refine⟨_,rfl,pa,rfl,⟨_,SqL.of hpv⟩,Qw0 (K:=K) (a:=pa) (xs:=pvs) (fun j ys H5=>Same H4 H5∧IsDs H5 ((List.replicate j (blk wd)).map Qr3) ys) ⟨Same.refl _,Ql4 _⟩ ?_ ?_ ?_ ?_ ?_⟩
    ·omega
    ·rintro j ys H5 ⟨_,hd⟩
     have:=hd.length
     rw[List.length_map,List.length_replicate]at this
     omega
    ·rintro j ys H5 _ ⟨s5,_⟩
     exact SqL.of (s5 _ _ hpv)
    ·rintro j y ys H5 hj ⟨s5,hd5⟩
     obtain⟨xs,hx,hxd⟩:=Qu4 hpd hj
     obtain⟨xa,rfl,hxa⟩:=Zj4 hxd
     have hxl:xs.length=wd:=po.wid xs (List.mem_of_getElem? hx)
     have hxa5:=s5 _ _ hxa
     refine⟨rfl,?_⟩
     refine⟨_,rfl,xa,rfl,⟨_,SqL.of hxa5⟩,Qw0 (K:=K) (a:=xa) (xs:=xs.map V.int) (fun m zs H6=>H6=H5∧zs=List.replicate m V.non) ⟨rfl,rfl⟩ ?_ ?_ ?_ ?_ ?_⟩
     ·rw[List.length_map];omega
     ·rintro m zs H6 ⟨_,rfl⟩
      rw[List.length_replicate];exact Nat.le_refl _
     ·rintro m zs H6 _ ⟨rfl,_⟩
      exact SqL.of hxa5
     ·rintro m z zs H6 hm ⟨rfl,rfl⟩
      exact⟨rfl,rfl,List.replicate_succ'.symm⟩
     ·rintro zs H6 ⟨rfl,rfl⟩ l1 hl1
      have s7:Same H6 (upd H6 l1 (.lst (List.replicate (xs.map V.int).length V.non))):=Qq5 hl1
      refine⟨s5.trans s7,?_⟩
      rw[List.replicate_succ',List.map_append]
      refine IsDs.snoc (IsDs.mono s7 hd5) (Xx8 ?_)
      rw[Qq1,List.length_map,hxl]
      unfold Qj4 blk
      rw[List.map_replicate]
      rfl
    rintro ys H5' ⟨s5',hd5'⟩ le hle
    rw[hpvl]at hd5'
    have s5:Same H4 (upd H5' le (.lst ys)):=s5'.trans (Qq5 hle)
    have hev:IsD (upd H5' le (.lst ys)) (Qe4 (Qd9 r wd)) (.ref le):=Xf7 Qq1 (IsDs.mono (Qq5 hle) hd5')
    show Qu5 6 (V.ref le) _ (upd H5' le (.lst ys)) _
    generalize upd H5' le (.lst ys)=H5 at s5 hev ⊢
    have htb5:=IsD.mono s5 htb4
    have tv5:IsT H5 t val:=tv.mono (TupK.of s5)
    have htt5:=s5 _ _ htt
    obtain⟨ms,em,_,_,gL⟩:=F.new
    have hL:=gL (by rw[List.length_map];exact hps)
    have em':ps.map (·.v)=ms:=by rw[em];rfl
    rw[←em']at hL
    have hun:=Yj0 (Qi8 r wd) hr4.2 hw4.2
    cases ps with
    | nil =>
     have hnb:¬b=b0:=fun e=>by
      rw[←e]at fit0
      have:=g3 (by simp) pic ((Zl5 bok).mpr fit0)
      simp at this
     refine⟨_,rfl,tt,_,_,.str "none",rfl,rfl,SqT.of htt5,rfl,rfl,_,rfl,eF (Zd6 (by decide +kernel)) ?_⟩
     refine⟨_,rfl,tt,_,_,.str "none",rfl,rfl,SqT.of htt5,rfl,rfl,_,rfl,Qs8 rfl ?_⟩
     refine⟨_,rfl,tt,_,rfl,.inr (SqT.of htt5),rfl,_,rfl,Qs8 rfl ?_⟩
     refine⟨_,rfl,_,rfl,Qv8 b,Qv8 b0,htb5,IsD.mono (s3.trans (s4.trans s5)) htb0,rfl,rfl,Nat.le_trans (Zy3 _) (by decide),_,rfl,?_⟩
     rw[Xt8]
     refine eF hnb ?_
     refine⟨_,rfl,_,rfl,tt,_,_,val,rfl,rfl,SqT.of htt5,rfl,_,rfl,tb,le,b,Qd9 r wd,t,val,[],r,wd,rfl,htb5,tv5,hev,Qi8 r wd,bok,hr4.1,hr4.2,hw4.2,hL,by simp,hun,fun l vs' H6 s6 hl6 hd6=>?_⟩
     have ev:vs'=[]:=by have:=hd6.length;exact List.length_eq_zero_iff.mp this.symm
     subst ev
     refine⟨Nat.zero_le _,fun e0 he0=>?_⟩
     have s7:Same H6 (upd H6 e0 (.lst [])):=Qq5 he0
     refine⟨dRow [],dRow [],Qu9 (s7 _ _ hl6),Qu9 Qq1,rfl,rfl,Nat.le_trans (Zw5 _) (by decide),?_⟩
     rw[Qc8]
     exact k _
    | cons p ps' =>
     obtain rfl:ps'=[]:=List.length_eq_zero_iff.mp (by rw[List.length_cons]at hps;omega)
     have hp0:p∈[p]:=List.mem_cons_self
     refine⟨_,rfl,tt,_,_,.str "one",rfl,rfl,SqT.of htt5,rfl,rfl,_,rfl,eT rfl ?_⟩
     refine⟨_,rfl,tt,_,rfl,.inr (SqT.of htt5),rfl,_,rfl,Qs8 rfl ?_⟩
     refine⟨_,rfl,tt,_,_,.ref p.l,rfl,rfl,SqT.of htt5,rfl,_,rfl,p.l,tb,picZ p.v,b,r,wd,rfl,Zh4 (pc.mono s5) hp0,htb5,gf p hp0,bok,hr4.1,hr4.2,hw4.2,fun H6 s6=>⟨_,rfl,iteF ?_⟩⟩
     have htt6:=s6 _ _ htt5
     refine⟨_,rfl,_,rfl,tt,_,_,val,rfl,rfl,SqT.of htt6,rfl,_,rfl,tb,le,b,Qd9 r wd,t,val,[p.v],r,wd,rfl,IsD.mono s6 htb5,tv5.mono (TupK.of s6),IsD.mono s6 hev,Qi8 r wd,bok,hr4.1,hr4.2,hw4.2,hL,by simp,hun,fun l vs' H7 s7 hl7 hd7=>?_⟩
     have htt7:=s7 _ _ htt6
     refine⟨_,rfl,tt,_,_,.ref p.l,rfl,rfl,SqT.of htt7,rfl,by show 1≤sizeLine;decide,fun l2 hl2=>?_⟩
     have s8:Same H7 (upd H7 l2 (.lst [.ref p.l])):=Qq5 hl2
     have hl28:(upd H7 l2 (.lst [.ref p.l])) l2=some (.lst [.ref p.l]):=Qq1
     generalize upd H7 l2 (.lst [.ref p.l])=H8 at s8 hl28 ⊢
     have pc8:=pc.mono (s5.trans (s6.trans (s7.trans s8)))
     refine⟨.lst [Qk6 (picZ p.v)],.lst [Qk6 (picZ p.v)],?_,?_,rfl,rfl,Zo7 [picZ p.v],_,rfl,?_⟩
     ·unfold IsD
      exact⟨l,vs',rfl,s8 _ _ hl7,IsDs.mono s8 hd7⟩
     ·unfold IsD
      exact⟨l2,[.ref p.l],rfl,hl28,IsDs.snoc (Ql4 _) (Zh4 pc8 hp0)⟩
     rw[Qc8]
     refine iteT ?_
     refine⟨_,rfl,tt,_,_,.ref p.l,rfl,rfl,SqT.of (s8 _ _ htt7),rfl,Nat.zero_le _,fun lo hlo=>?_⟩
     have s9:Same H8 (upd H8 lo (.lst [])):=Qq5 hlo
     have ow:=Xt9 pc8 hp0
     refine⟨p.l,lo,p.as,picZ p.v,[],[],rfl,ow.keep s9,(nda p hp0).1,(nda p hp0).2,Qq1,fun z=>ow.live lo z hlo,Ql4 _,(pwid p hp0).1,(pwid p hp0).2,by simp,(fun o ho=>by cases ho),fun H'=>k _⟩
   ·match ps,hps,htt,gf,nda,pwid,g2,pc with
    | [],hps,_,_,_,_,_,_=>exact absurd (by simp) hps
    | [_],hps,_,_,_,_,_,_=>exact absurd (by simp) hps
    | p::q::ps,_,htt,gf,nda,pwid,g2,pc =>
     have hp0:p∈p::q::ps:=by simp
     have hq0:q∈p::q::ps:=by simp
     have hne:¬picZ p.v=picZ q.v:=fun e=>by
      rw[List.map_map,List.map_cons,List.map_cons]at g2
      exact(List.nodup_cons.mp g2).1 (by
       show picZ p.v∈_
       rw[e];exact List.mem_cons_self)
     have hdis:∀a∈pcAd q,a∉p.as:=fun a ha z=>by
      have:=pc.nd
      rw[List.flatMap_cons,List.flatMap_cons]at this
      exact(List.nodup_append.mp this).2.2 a (by unfold pcAd;simp[z]) a (List.mem_append_left _ ha) rfl
     refine⟨_,rfl,_,_,_,true,rfl,fun _ z=>z,.tup htt,rfl,_,rfl,iteF ?_⟩
     refine⟨_,rfl,tt,_,rfl,.inr (SqT.of htt),_,_,rfl,rfl,_,rfl,eF (by show ¬(3:Int)<2;decide) ?_⟩
     refine⟨_,rfl,tt,_,_,.str "several",rfl,rfl,SqT.of htt,rfl,rfl,_,rfl,eT rfl ?_⟩
     refine⟨_,rfl,tt,_,rfl,.inr (SqT.of htt),rfl,_,rfl,Qs8 rfl ?_⟩
     refine⟨_,rfl,tt,_,_,.ref p.l,rfl,rfl,SqT.of htt,rfl,_,rfl,p.l,tb,picZ p.v,b,r,wd,rfl,Zh4 pc hp0,htb4,gf p hp0,bok,hr4.1,hr4.2,hw4.2,fun H5 s5=>⟨_,rfl,iteF ?_⟩⟩
     refine⟨_,rfl,tt,_,_,.ref q.l,rfl,rfl,SqT.of (s5 _ _ htt),rfl,_,rfl,q.l,tb,picZ q.v,b,r,wd,rfl,Zh4 (pc.mono s5) hq0,IsD.mono s5 htb4,gf q hq0,bok,hr4.1,hr4.2,hw4.2,fun H6 s6=>⟨_,rfl,iteF ?_⟩⟩
     have s46:=s5.trans s6
     have pc6:=pc.mono s46
     have htt6:=s46 _ _ htt
     refine⟨_,rfl,tt,_,_,.ref p.l,rfl,rfl,SqT.of htt6,rfl,_,rfl,tt,_,_,.ref q.l,rfl,rfl,SqT.of htt6,rfl,Qk6 (picZ p.v),Qk6 (picZ q.v),Zh4 pc6 hp0,Zh4 pc6 hq0,.inl ⟨_,_,rfl,rfl⟩,Nat.le_trans (Zb2 _) (by decide),_,rfl,?_⟩
     rw[Yz9]
     refine eNT hne ?_
     refine⟨_,rfl,tt,_,_,.ref p.l,rfl,rfl,SqT.of htt6,rfl,_,rfl,tt,_,_,.ref q.l,rfl,rfl,SqT.of htt6,rfl,by show 1≤sizeLine;decide,fun lo hlo=>?_⟩
     have s7:Same H6 (upd H6 lo (.lst [.ref q.l])):=Qq5 hlo
     have hlo7:(upd H6 lo (.lst [.ref q.l])) lo=some (.lst [.ref q.l]):=Qq1
     have ow:=Xt9 pc6 hp0
     have nlo:lo∉p.as:=fun z=>ow.live lo z hlo
     show Qc9 [.ref p.l,.ref lo] (upd H6 lo (.lst [.ref q.l])) _ E0
     generalize upd H6 lo (.lst [.ref q.l])=H7 at s7 hlo7 ⊢
     refine⟨p.l,lo,p.as,picZ p.v,[picZ q.v],[.ref q.l],rfl,ow.keep s7,(nda p hp0).1,(nda p hp0).2,hlo7,nlo,IsDs.snoc (Ql4 _) (Yy6 (pc6.mono s7) hq0 hdis),(pwid p hp0).1,(pwid p hp0).2,by simp,(fun o ho=>by rw[List.mem_singleton.mp ho];exact(pwid q hq0).1),fun H'=>k _⟩
end
theorem all_mk {l:PySem.W.OpenLaw}{w:World}{K:PySem.W.Frag}{h:Heap}{mg:Str→Option Value}{fa:Addr} (X:K.In h) (G:h.Ns mainGlobals mg) (hfa:mg "law" = some (.ref fa))
  {C_Line:Addr} (aC_Line:PySem.W.nsIn K mainGlobals "Line" = some (some (.ref C_Line)))
  {C_Told:Addr} (aC_Told:PySem.W.nsIn K mainGlobals "Told" = some (some (.ref C_Told)))
  {C_Search:Addr} (aC_Search:PySem.W.nsIn K mainGlobals "Search" = some (some (.ref C_Search)))
  {f_packed_layings:Addr}{od_packed_layings an_packed_layings:Option Addr}{sl_packed_layings:Array (Option Value)}{oc_packed_layings kV_packed_layings dc_packed_layings pm_packed_layings cd_packed_layings ct_packed_layings:Value}
  (a_packed_layings:PySem.W.nsIn K mainGlobals "packed_layings" = some (some (.ref f_packed_layings))) (l_packed_layings:K.lookup f_packed_layings=some ⟨oc_packed_layings,od_packed_layings,.func (PySem.W.fnOf "packed_layings" "packed_layings" (Qj0 Qb1) (Qx9 Qb1) (Qz0 Qb1) .none kV_packed_layings dc_packed_layings pm_packed_layings an_packed_layings cd_packed_layings ct_packed_layings),sl_packed_layings⟩) (c_packed_layings:PySem.W.codeIn K cd_packed_layings "packed_layings" = true) (k_packed_layings:PySem.W.keepIn K (.ref f_packed_layings)=true)
  {f_unpacked:Addr}{od_unpacked an_unpacked:Option Addr}{sl_unpacked:Array (Option Value)}{oc_unpacked kV_unpacked dc_unpacked pm_unpacked cd_unpacked ct_unpacked:Value}
  (a_unpacked:PySem.W.nsIn K mainGlobals "unpacked" = some (some (.ref f_unpacked))) (l_unpacked:K.lookup f_unpacked=some ⟨oc_unpacked,od_unpacked,.func (PySem.W.fnOf "unpacked" "unpacked" (Qj0 Qn1) (Qx9 Qn1) (Qz0 Qn1) .none kV_unpacked dc_unpacked pm_unpacked an_unpacked cd_unpacked ct_unpacked),sl_unpacked⟩) (c_unpacked:PySem.W.codeIn K cd_unpacked "unpacked" = true) (k_unpacked:PySem.W.keepIn K (.ref f_unpacked)=true)
  {f_with_forced:Addr}{od_with_forced an_with_forced:Option Addr}{sl_with_forced:Array (Option Value)}{oc_with_forced kV_with_forced dc_with_forced pm_with_forced cd_with_forced ct_with_forced:Value}
  (a_with_forced:PySem.W.nsIn K mainGlobals "with_forced" = some (some (.ref f_with_forced))) (l_with_forced:K.lookup f_with_forced=some ⟨oc_with_forced,od_with_forced,.func (PySem.W.fnOf "with_forced" "with_forced" (Qj0 Qd1) (Qx9 Qd1) (Qz0 Qd1) .none kV_with_forced dc_with_forced pm_with_forced an_with_forced cd_with_forced ct_with_forced),sl_with_forced⟩) (c_with_forced:PySem.W.codeIn K cd_with_forced "with_forced" = true) (k_with_forced:PySem.W.keepIn K (.ref f_with_forced)=true)
  {f_Told___init__:Addr}{od_Told___init__ an_Told___init__:Option Addr}{sl_Told___init__:Array (Option Value)}{oc_Told___init__ kV_Told___init__ dc_Told___init__ pm_Told___init__ cd_Told___init__ ct_Told___init__:Value}
  (a_Told___init__:PySem.W.findIn K (.ref C_Told) "__init__" = some (some (.ref f_Told___init__))) (i_Told___init__:PySem.W.isFn K (.ref f_Told___init__)=true) (l_Told___init__:K.lookup f_Told___init__=some ⟨oc_Told___init__,od_Told___init__,.func (PySem.W.fnOf "__init__" "Told.__init__" (Qj0 Qp8) (Qx9 Qp8) (Qz0 Qp8) .none kV_Told___init__ dc_Told___init__ pm_Told___init__ an_Told___init__ cd_Told___init__ ct_Told___init__),sl_Told___init__⟩) (c_Told___init__:PySem.W.codeIn K cd_Told___init__ "Told.__init__" = true) (k_Told___init__:PySem.W.keepIn K (.ref f_Told___init__)=true)
  {f_Told_tell:Addr}{od_Told_tell an_Told_tell:Option Addr}{sl_Told_tell:Array (Option Value)}{oc_Told_tell kV_Told_tell dc_Told_tell pm_Told_tell cd_Told_tell ct_Told_tell:Value}
  (a_Told_tell:PySem.W.findIn K (.ref C_Told) "tell" = some (some (.ref f_Told_tell))) (i_Told_tell:PySem.W.isFn K (.ref f_Told_tell)=true) (l_Told_tell:K.lookup f_Told_tell=some ⟨oc_Told_tell,od_Told_tell,.func (PySem.W.fnOf "tell" "Told.tell" (Qj0 Qr6) (Qx9 Qr6) (Qz0 Qr6) .none kV_Told_tell dc_Told_tell pm_Told_tell an_Told_tell cd_Told_tell ct_Told_tell),sl_Told_tell⟩) (c_Told_tell:PySem.W.codeIn K cd_Told_tell "Told.tell" = true) (k_Told_tell:PySem.W.keepIn K (.ref f_Told_tell)=true)
  {f_Told_twin_with:Addr}{od_Told_twin_with an_Told_twin_with:Option Addr}{sl_Told_twin_with:Array (Option Value)}{oc_Told_twin_with kV_Told_twin_with dc_Told_twin_with pm_Told_twin_with cd_Told_twin_with ct_Told_twin_with:Value}
  (a_Told_twin_with:PySem.W.findIn K (.ref C_Told) "twin_with" = some (some (.ref f_Told_twin_with))) (i_Told_twin_with:PySem.W.isFn K (.ref f_Told_twin_with)=true) (l_Told_twin_with:K.lookup f_Told_twin_with=some ⟨oc_Told_twin_with,od_Told_twin_with,.func (PySem.W.fnOf "twin_with" "Told.twin_with" (Qj0 Qb2) (Qx9 Qb2) (Qz0 Qb2) .none kV_Told_twin_with dc_Told_twin_with pm_Told_twin_with an_Told_twin_with cd_Told_twin_with ct_Told_twin_with),sl_Told_twin_with⟩) (c_Told_twin_with:PySem.W.codeIn K cd_Told_twin_with "Told.twin_with" = true) (k_Told_twin_with:PySem.W.keepIn K (.ref f_Told_twin_with)=true)
  {f_Told_first_open:Addr}{od_Told_first_open an_Told_first_open:Option Addr}{sl_Told_first_open:Array (Option Value)}{oc_Told_first_open kV_Told_first_open dc_Told_first_open pm_Told_first_open cd_Told_first_open ct_Told_first_open:Value}
  (a_Told_first_open:PySem.W.findIn K (.ref C_Told) "first_open" = some (some (.ref f_Told_first_open))) (i_Told_first_open:PySem.W.isFn K (.ref f_Told_first_open)=true) (l_Told_first_open:K.lookup f_Told_first_open=some ⟨oc_Told_first_open,od_Told_first_open,.func (PySem.W.fnOf "first_open" "Told.first_open" (Qj0 Qh0) (Qx9 Qh0) (Qz0 Qh0) .none kV_Told_first_open dc_Told_first_open pm_Told_first_open an_Told_first_open cd_Told_first_open ct_Told_first_open),sl_Told_first_open⟩) (c_Told_first_open:PySem.W.codeIn K cd_Told_first_open "Told.first_open" = true) (k_Told_first_open:PySem.W.keepIn K (.ref f_Told_first_open)=true)
  {f_Told_picture:Addr}{od_Told_picture an_Told_picture:Option Addr}{sl_Told_picture:Array (Option Value)}{oc_Told_picture kV_Told_picture dc_Told_picture pm_Told_picture cd_Told_picture ct_Told_picture:Value}
  (a_Told_picture:PySem.W.findIn K (.ref C_Told) "picture" = some (some (.ref f_Told_picture))) (i_Told_picture:PySem.W.isFn K (.ref f_Told_picture)=true) (l_Told_picture:K.lookup f_Told_picture=some ⟨oc_Told_picture,od_Told_picture,.func (PySem.W.fnOf "picture" "Told.picture" (Qj0 Qm5) (Qx9 Qm5) (Qz0 Qm5) .none kV_Told_picture dc_Told_picture pm_Told_picture an_Told_picture cd_Told_picture ct_Told_picture),sl_Told_picture⟩) (c_Told_picture:PySem.W.codeIn K cd_Told_picture "Told.picture" = true) (k_Told_picture:PySem.W.keepIn K (.ref f_Told_picture)=true)
  {f_Line_reckoned:Addr}{od_Line_reckoned an_Line_reckoned:Option Addr}{sl_Line_reckoned:Array (Option Value)}{oc_Line_reckoned kV_Line_reckoned dc_Line_reckoned pm_Line_reckoned cd_Line_reckoned ct_Line_reckoned:Value}
  (a_Line_reckoned:PySem.W.findIn K (.ref C_Line) "reckoned" = some (some (.ref f_Line_reckoned))) (i_Line_reckoned:PySem.W.isFn K (.ref f_Line_reckoned)=true) (l_Line_reckoned:K.lookup f_Line_reckoned=some ⟨oc_Line_reckoned,od_Line_reckoned,.func (PySem.W.fnOf "reckoned" "Line.reckoned" (Qj0 Qp7) (Qx9 Qp7) (Qz0 Qp7) .none kV_Line_reckoned dc_Line_reckoned pm_Line_reckoned an_Line_reckoned cd_Line_reckoned ct_Line_reckoned),sl_Line_reckoned⟩) (c_Line_reckoned:PySem.W.codeIn K cd_Line_reckoned "Line.reckoned" = true) (k_Line_reckoned:PySem.W.keepIn K (.ref f_Line_reckoned)=true)
  {f_Line_seen:Addr}{od_Line_seen an_Line_seen:Option Addr}{sl_Line_seen:Array (Option Value)}{oc_Line_seen kV_Line_seen dc_Line_seen pm_Line_seen cd_Line_seen ct_Line_seen:Value}
  (a_Line_seen:PySem.W.findIn K (.ref C_Line) "seen" = some (some (.ref f_Line_seen))) (i_Line_seen:PySem.W.isFn K (.ref f_Line_seen)=true) (l_Line_seen:K.lookup f_Line_seen=some ⟨oc_Line_seen,od_Line_seen,.func (PySem.W.fnOf "seen" "Line.seen" (Qj0 Ql3) (Qx9 Ql3) (Qz0 Ql3) .none kV_Line_seen dc_Line_seen pm_Line_seen an_Line_seen cd_Line_seen ct_Line_seen),sl_Line_seen⟩) (c_Line_seen:PySem.W.codeIn K cd_Line_seen "Line.seen" = true) (k_Line_seen:PySem.W.keepIn K (.ref f_Line_seen)=true)
  {f_Line___init__:Addr}{od_Line___init__ an_Line___init__:Option Addr}{sl_Line___init__:Array (Option Value)}{oc_Line___init__ kV_Line___init__ dc_Line___init__ pm_Line___init__ cd_Line___init__ ct_Line___init__:Value}
  (a_Line___init__:PySem.W.findIn K (.ref C_Line) "__init__" = some (some (.ref f_Line___init__))) (i_Line___init__:PySem.W.isFn K (.ref f_Line___init__)=true) (l_Line___init__:K.lookup f_Line___init__=some ⟨oc_Line___init__,od_Line___init__,.func (PySem.W.fnOf "__init__" "Line.__init__" (Qj0 Qp6) (Qx9 Qp6) (Qz0 Qp6) .none kV_Line___init__ dc_Line___init__ pm_Line___init__ an_Line___init__ cd_Line___init__ ct_Line___init__),sl_Line___init__⟩) (c_Line___init__:PySem.W.codeIn K cd_Line___init__ "Line.__init__" = true) (k_Line___init__:PySem.W.keepIn K (.ref f_Line___init__)=true)
  {f_Search_narrow:Addr}{od_Search_narrow an_Search_narrow:Option Addr}{sl_Search_narrow:Array (Option Value)}{oc_Search_narrow kV_Search_narrow dc_Search_narrow pm_Search_narrow cd_Search_narrow ct_Search_narrow:Value}
  (a_Search_narrow:PySem.W.findIn K (.ref C_Search) "narrow" = some (some (.ref f_Search_narrow))) (i_Search_narrow:PySem.W.isFn K (.ref f_Search_narrow)=true) (l_Search_narrow:K.lookup f_Search_narrow=some ⟨oc_Search_narrow,od_Search_narrow,.func (PySem.W.fnOf "narrow" "Search.narrow" (Qj0 Qp9) (Qx9 Qp9) (Qz0 Qp9) .none kV_Search_narrow dc_Search_narrow pm_Search_narrow an_Search_narrow cd_Search_narrow ct_Search_narrow),sl_Search_narrow⟩) (c_Search_narrow:PySem.W.codeIn K cd_Search_narrow "Search.narrow" = true) (k_Search_narrow:PySem.W.keepIn K (.ref f_Search_narrow)=true)
  {f_Search_rests_of:Addr}{od_Search_rests_of an_Search_rests_of:Option Addr}{sl_Search_rests_of:Array (Option Value)}{oc_Search_rests_of kV_Search_rests_of dc_Search_rests_of pm_Search_rests_of cd_Search_rests_of ct_Search_rests_of:Value}
  (a_Search_rests_of:PySem.W.findIn K (.ref C_Search) "rests_of" = some (some (.ref f_Search_rests_of))) (i_Search_rests_of:PySem.W.isFn K (.ref f_Search_rests_of)=true) (l_Search_rests_of:K.lookup f_Search_rests_of=some ⟨oc_Search_rests_of,od_Search_rests_of,.func (PySem.W.fnOf "rests_of" "Search.rests_of" (Qj0 Qh2) (Qx9 Qh2) (Qz0 Qh2) .none kV_Search_rests_of dc_Search_rests_of pm_Search_rests_of an_Search_rests_of cd_Search_rests_of ct_Search_rests_of),sl_Search_rests_of⟩) (c_Search_rests_of:PySem.W.codeIn K cd_Search_rests_of "Search.rests_of" = true) (k_Search_rests_of:PySem.W.keepIn K (.ref f_Search_rests_of)=true)
  {f_Search_open_tree:Addr}{od_Search_open_tree an_Search_open_tree:Option Addr}{sl_Search_open_tree:Array (Option Value)}{oc_Search_open_tree kV_Search_open_tree dc_Search_open_tree pm_Search_open_tree cd_Search_open_tree ct_Search_open_tree:Value}
  (a_Search_open_tree:PySem.W.findIn K (.ref C_Search) "open_tree" = some (some (.ref f_Search_open_tree))) (i_Search_open_tree:PySem.W.isFn K (.ref f_Search_open_tree)=true) (l_Search_open_tree:K.lookup f_Search_open_tree=some ⟨oc_Search_open_tree,od_Search_open_tree,.func (PySem.W.fnOf "open_tree" "Search.open_tree" (Qj0 Qv2) (Qx9 Qv2) (Qz0 Qv2) .none kV_Search_open_tree dc_Search_open_tree pm_Search_open_tree an_Search_open_tree cd_Search_open_tree ct_Search_open_tree),sl_Search_open_tree⟩) (c_Search_open_tree:PySem.W.codeIn K cd_Search_open_tree "Search.open_tree" = true) (k_Search_open_tree:PySem.W.keepIn K (.ref f_Search_open_tree)=true)
  {f_Search_tree:Addr}{od_Search_tree an_Search_tree:Option Addr}{sl_Search_tree:Array (Option Value)}{oc_Search_tree kV_Search_tree dc_Search_tree pm_Search_tree cd_Search_tree ct_Search_tree:Value}
  (a_Search_tree:PySem.W.findIn K (.ref C_Search) "tree" = some (some (.ref f_Search_tree))) (i_Search_tree:PySem.W.isFn K (.ref f_Search_tree)=true) (l_Search_tree:K.lookup f_Search_tree=some ⟨oc_Search_tree,od_Search_tree,.func (PySem.W.fnOf "tree" "Search.tree" (Qj0 Qf2) (Qx9 Qf2) (Qz0 Qf2) .none kV_Search_tree dc_Search_tree pm_Search_tree an_Search_tree cd_Search_tree ct_Search_tree),sl_Search_tree⟩) (c_Search_tree:PySem.W.codeIn K cd_Search_tree "Search.tree" = true) (k_Search_tree:PySem.W.keepIn K (.ref f_Search_tree)=true)
  {f_Search___init__:Addr}{od_Search___init__ an_Search___init__:Option Addr}{sl_Search___init__:Array (Option Value)}{oc_Search___init__ kV_Search___init__ dc_Search___init__ pm_Search___init__ cd_Search___init__ ct_Search___init__:Value}
  (a_Search___init__:PySem.W.findIn K (.ref C_Search) "__init__" = some (some (.ref f_Search___init__))) (i_Search___init__:PySem.W.isFn K (.ref f_Search___init__)=true) (l_Search___init__:K.lookup f_Search___init__=some ⟨oc_Search___init__,od_Search___init__,.func (PySem.W.fnOf "__init__" "Search.__init__" (Qj0 Qh1) (Qx9 Qh1) (Qz0 Qh1) .none kV_Search___init__ dc_Search___init__ pm_Search___init__ an_Search___init__ cd_Search___init__ ct_Search___init__),sl_Search___init__⟩) (c_Search___init__:PySem.W.codeIn K cd_Search___init__ "Search.__init__" = true) (k_Search___init__:PySem.W.keepIn K (.ref f_Search___init__)=true)
  {f_Search_whole_tree:Addr}{od_Search_whole_tree an_Search_whole_tree:Option Addr}{sl_Search_whole_tree:Array (Option Value)}{oc_Search_whole_tree kV_Search_whole_tree dc_Search_whole_tree pm_Search_whole_tree cd_Search_whole_tree ct_Search_whole_tree:Value}
  (a_Search_whole_tree:PySem.W.findIn K (.ref C_Search) "whole_tree" = some (some (.ref f_Search_whole_tree))) (i_Search_whole_tree:PySem.W.isFn K (.ref f_Search_whole_tree)=true) (l_Search_whole_tree:K.lookup f_Search_whole_tree=some ⟨oc_Search_whole_tree,od_Search_whole_tree,.func (PySem.W.fnOf "whole_tree" "Search.whole_tree" (Qj0 Qy4) (Qx9 Qy4) (Qz0 Qy4) .none kV_Search_whole_tree dc_Search_whole_tree pm_Search_whole_tree an_Search_whole_tree cd_Search_whole_tree ct_Search_whole_tree),sl_Search_whole_tree⟩) (c_Search_whole_tree:PySem.W.codeIn K cd_Search_whole_tree "Search.whole_tree" = true) (k_Search_whole_tree:PySem.W.keepIn K (.ref f_Search_whole_tree)=true)
  {f_judged:Addr}{od_judged an_judged:Option Addr}{sl_judged:Array (Option Value)}{oc_judged kV_judged dc_judged pm_judged cd_judged ct_judged:Value}
  (a_judged:PySem.W.nsIn K mainGlobals "judged" = some (some (.ref f_judged))) (l_judged:K.lookup f_judged=some ⟨oc_judged,od_judged,.func (PySem.W.fnOf "judged" "judged" (Qj0 Qo6) (Qx9 Qo6) (Qz0 Qo6) .none kV_judged dc_judged pm_judged an_judged cd_judged ct_judged),sl_judged⟩) (c_judged:PySem.W.codeIn K cd_judged "judged" = true) (k_judged:PySem.W.keepIn K (.ref f_judged)=true)
  {f__law_cell_at:Addr}{od__law_cell_at an__law_cell_at:Option Addr}{sl__law_cell_at:Array (Option Value)}{oc__law_cell_at kV__law_cell_at dc__law_cell_at pm__law_cell_at cd__law_cell_at ct__law_cell_at:Value}
  (a__law_cell_at:PySem.W.nsIn K mainGlobals "_law_cell_at" = some (some (.ref f__law_cell_at))) (l__law_cell_at:K.lookup f__law_cell_at=some ⟨oc__law_cell_at,od__law_cell_at,.func (PySem.W.fnOf "_law_cell_at" "_law_cell_at" (Qj0 Qm6) (Qx9 Qm6) (Qz0 Qm6) .none kV__law_cell_at dc__law_cell_at pm__law_cell_at an__law_cell_at cd__law_cell_at ct__law_cell_at),sl__law_cell_at⟩) (c__law_cell_at:PySem.W.codeIn K cd__law_cell_at "_law_cell_at" = true) (k__law_cell_at:PySem.W.keepIn K (.ref f__law_cell_at)=true)
  {f__law_mix:Addr}{od__law_mix an__law_mix:Option Addr}{sl__law_mix:Array (Option Value)}{oc__law_mix kV__law_mix dc__law_mix pm__law_mix cd__law_mix ct__law_mix:Value}
  (a__law_mix:PySem.W.nsIn K mainGlobals "_law_mix" = some (some (.ref f__law_mix))) (l__law_mix:K.lookup f__law_mix=some ⟨oc__law_mix,od__law_mix,.func (PySem.W.fnOf "_law_mix" "_law_mix" (Qj0 Qn2) (Qx9 Qn2) (Qz0 Qn2) .none kV__law_mix dc__law_mix pm__law_mix an__law_mix cd__law_mix ct__law_mix),sl__law_mix⟩) (c__law_mix:PySem.W.codeIn K cd__law_mix "_law_mix" = true) (k__law_mix:PySem.W.keepIn K (.ref f__law_mix)=true)
  {f__law_runs:Addr}{od__law_runs an__law_runs:Option Addr}{sl__law_runs:Array (Option Value)}{oc__law_runs kV__law_runs dc__law_runs pm__law_runs cd__law_runs ct__law_runs:Value}
  (a__law_runs:PySem.W.nsIn K mainGlobals "_law_runs" = some (some (.ref f__law_runs))) (l__law_runs:K.lookup f__law_runs=some ⟨oc__law_runs,od__law_runs,.func (PySem.W.fnOf "_law_runs" "_law_runs" (Qj0 Qr7) (Qx9 Qr7) (Qz0 Qr7) .none kV__law_runs dc__law_runs pm__law_runs an__law_runs cd__law_runs ct__law_runs),sl__law_runs⟩) (c__law_runs:PySem.W.codeIn K cd__law_runs "_law_runs" = true) (k__law_runs:PySem.W.keepIn K (.ref f__law_runs)=true)
  {f__law_every:Addr}{od__law_every an__law_every:Option Addr}{sl__law_every:Array (Option Value)}{oc__law_every kV__law_every dc__law_every pm__law_every cd__law_every ct__law_every:Value}
  (a__law_every:PySem.W.nsIn K mainGlobals "_law_every" = some (some (.ref f__law_every))) (l__law_every:K.lookup f__law_every=some ⟨oc__law_every,od__law_every,.func (PySem.W.fnOf "_law_every" "_law_every" (Qj0 Qc2) (Qx9 Qc2) (Qz0 Qc2) .none kV__law_every dc__law_every pm__law_every an__law_every cd__law_every ct__law_every),sl__law_every⟩) (c__law_every:PySem.W.codeIn K cd__law_every "_law_every" = true) (k__law_every:PySem.W.keepIn K (.ref f__law_every)=true)
  {f__law_fitting:Addr}{od__law_fitting an__law_fitting:Option Addr}{sl__law_fitting:Array (Option Value)}{oc__law_fitting kV__law_fitting dc__law_fitting pm__law_fitting cd__law_fitting ct__law_fitting:Value}
  (a__law_fitting:PySem.W.nsIn K mainGlobals "_law_fitting" = some (some (.ref f__law_fitting))) (l__law_fitting:K.lookup f__law_fitting=some ⟨oc__law_fitting,od__law_fitting,.func (PySem.W.fnOf "_law_fitting" "_law_fitting" (Qj0 Qm7) (Qx9 Qm7) (Qz0 Qm7) .none kV__law_fitting dc__law_fitting pm__law_fitting an__law_fitting cd__law_fitting ct__law_fitting),sl__law_fitting⟩) (c__law_fitting:PySem.W.codeIn K cd__law_fitting "_law_fitting" = true) (k__law_fitting:PySem.W.keepIn K (.ref f__law_fitting)=true)
  {f__law_picture:Addr}{od__law_picture an__law_picture:Option Addr}{sl__law_picture:Array (Option Value)}{oc__law_picture kV__law_picture dc__law_picture pm__law_picture cd__law_picture ct__law_picture:Value}
  (a__law_picture:PySem.W.nsIn K mainGlobals "_law_picture" = some (some (.ref f__law_picture))) (l__law_picture:K.lookup f__law_picture=some ⟨oc__law_picture,od__law_picture,.func (PySem.W.fnOf "_law_picture" "_law_picture" (Qj0 Qm8) (Qx9 Qm8) (Qz0 Qm8) .none kV__law_picture dc__law_picture pm__law_picture an__law_picture cd__law_picture ct__law_picture),sl__law_picture⟩) (c__law_picture:PySem.W.codeIn K cd__law_picture "_law_picture" = true) (k__law_picture:PySem.W.keepIn K (.ref f__law_picture)=true)
  {f__law_column:Addr}{od__law_column an__law_column:Option Addr}{sl__law_column:Array (Option Value)}{oc__law_column kV__law_column dc__law_column pm__law_column cd__law_column ct__law_column:Value}
  (a__law_column:PySem.W.nsIn K mainGlobals "_law_column" = some (some (.ref f__law_column))) (l__law_column:K.lookup f__law_column=some ⟨oc__law_column,od__law_column,.func (PySem.W.fnOf "_law_column" "_law_column" (Qj0 Qd2) (Qx9 Qd2) (Qz0 Qd2) .none kV__law_column dc__law_column pm__law_column an__law_column cd__law_column ct__law_column),sl__law_column⟩) (c__law_column:PySem.W.codeIn K cd__law_column "_law_column" = true) (k__law_column:PySem.W.keepIn K (.ref f__law_column)=true)
  {f__law_board:Addr}{od__law_board an__law_board:Option Addr}{sl__law_board:Array (Option Value)}{oc__law_board kV__law_board dc__law_board pm__law_board cd__law_board ct__law_board:Value}
  (a__law_board:PySem.W.nsIn K mainGlobals "_law_board" = some (some (.ref f__law_board))) (l__law_board:K.lookup f__law_board=some ⟨oc__law_board,od__law_board,.func (PySem.W.fnOf "_law_board" "_law_board" (Qj0 Qc3) (Qx9 Qc3) (Qz0 Qc3) .none kV__law_board dc__law_board pm__law_board an__law_board cd__law_board ct__law_board),sl__law_board⟩) (c__law_board:PySem.W.codeIn K cd__law_board "_law_board" = true) (k__law_board:PySem.W.keepIn K (.ref f__law_board)=true)
  {f__law_any_board:Addr}{od__law_any_board an__law_any_board:Option Addr}{sl__law_any_board:Array (Option Value)}{oc__law_any_board kV__law_any_board dc__law_any_board pm__law_any_board cd__law_any_board ct__law_any_board:Value}
  (a__law_any_board:PySem.W.nsIn K mainGlobals "_law_any_board" = some (some (.ref f__law_any_board))) (l__law_any_board:K.lookup f__law_any_board=some ⟨oc__law_any_board,od__law_any_board,.func (PySem.W.fnOf "_law_any_board" "_law_any_board" (Qj0 Qb3) (Qx9 Qb3) (Qz0 Qb3) .none kV__law_any_board dc__law_any_board pm__law_any_board an__law_any_board cd__law_any_board ct__law_any_board),sl__law_any_board⟩) (c__law_any_board:PySem.W.codeIn K cd__law_any_board "_law_any_board" = true) (k__law_any_board:PySem.W.keepIn K (.ref f__law_any_board)=true)
  {f__law_whole:Addr}{od__law_whole an__law_whole:Option Addr}{sl__law_whole:Array (Option Value)}{oc__law_whole kV__law_whole dc__law_whole pm__law_whole cd__law_whole ct__law_whole:Value}
  (a__law_whole:PySem.W.nsIn K mainGlobals "_law_whole" = some (some (.ref f__law_whole))) (l__law_whole:K.lookup f__law_whole=some ⟨oc__law_whole,od__law_whole,.func (PySem.W.fnOf "_law_whole" "_law_whole" (Qj0 Qc1) (Qx9 Qc1) (Qz0 Qc1) .none kV__law_whole dc__law_whole pm__law_whole an__law_whole cd__law_whole ct__law_whole),sl__law_whole⟩) (c__law_whole:PySem.W.codeIn K cd__law_whole "_law_whole" = true) (k__law_whole:PySem.W.keepIn K (.ref f__law_whole)=true)
  {f__law_sight:Addr}{od__law_sight an__law_sight:Option Addr}{sl__law_sight:Array (Option Value)}{oc__law_sight kV__law_sight dc__law_sight pm__law_sight cd__law_sight ct__law_sight:Value}
  (a__law_sight:PySem.W.nsIn K mainGlobals "_law_sight" = some (some (.ref f__law_sight))) (l__law_sight:K.lookup f__law_sight=some ⟨oc__law_sight,od__law_sight,.func (PySem.W.fnOf "_law_sight" "_law_sight" (Qj0 Qc4) (Qx9 Qc4) (Qz0 Qc4) .none kV__law_sight dc__law_sight pm__law_sight an__law_sight cd__law_sight ct__law_sight),sl__law_sight⟩) (c__law_sight:PySem.W.codeIn K cd__law_sight "_law_sight" = true) (k__law_sight:PySem.W.keepIn K (.ref f__law_sight)=true)
  {f__law_is_picture:Addr}{od__law_is_picture an__law_is_picture:Option Addr}{sl__law_is_picture:Array (Option Value)}{oc__law_is_picture kV__law_is_picture dc__law_is_picture pm__law_is_picture cd__law_is_picture ct__law_is_picture:Value}
  (a__law_is_picture:PySem.W.nsIn K mainGlobals "_law_is_picture" = some (some (.ref f__law_is_picture))) (l__law_is_picture:K.lookup f__law_is_picture=some ⟨oc__law_is_picture,od__law_is_picture,.func (PySem.W.fnOf "_law_is_picture" "_law_is_picture" (Qj0 Qh3) (Qx9 Qh3) (Qz0 Qh3) .none kV__law_is_picture dc__law_is_picture pm__law_is_picture an__law_is_picture cd__law_is_picture ct__law_is_picture),sl__law_is_picture⟩) (c__law_is_picture:PySem.W.codeIn K cd__law_is_picture "_law_is_picture" = true) (k__law_is_picture:PySem.W.keepIn K (.ref f__law_is_picture)=true)
  {f__law_leaves:Addr}{od__law_leaves an__law_leaves:Option Addr}{sl__law_leaves:Array (Option Value)}{oc__law_leaves kV__law_leaves dc__law_leaves pm__law_leaves cd__law_leaves ct__law_leaves:Value}
  (a__law_leaves:PySem.W.nsIn K mainGlobals "_law_leaves" = some (some (.ref f__law_leaves))) (l__law_leaves:K.lookup f__law_leaves=some ⟨oc__law_leaves,od__law_leaves,.func (PySem.W.fnOf "_law_leaves" "_law_leaves" (Qj0 Qh4) (Qx9 Qh4) (Qz0 Qh4) .none kV__law_leaves dc__law_leaves pm__law_leaves an__law_leaves cd__law_leaves ct__law_leaves),sl__law_leaves⟩) (c__law_leaves:PySem.W.codeIn K cd__law_leaves "_law_leaves" = true) (k__law_leaves:PySem.W.keepIn K (.ref f__law_leaves)=true)
  {f__law_own_rows:Addr}{od__law_own_rows an__law_own_rows:Option Addr}{sl__law_own_rows:Array (Option Value)}{oc__law_own_rows kV__law_own_rows dc__law_own_rows pm__law_own_rows cd__law_own_rows ct__law_own_rows:Value}
  (a__law_own_rows:PySem.W.nsIn K mainGlobals "_law_own_rows" = some (some (.ref f__law_own_rows))) (l__law_own_rows:K.lookup f__law_own_rows=some ⟨oc__law_own_rows,od__law_own_rows,.func (PySem.W.fnOf "_law_own_rows" "_law_own_rows" (Qj0 Qf0) (Qx9 Qf0) (Qz0 Qf0) .none kV__law_own_rows dc__law_own_rows pm__law_own_rows an__law_own_rows cd__law_own_rows ct__law_own_rows),sl__law_own_rows⟩) (c__law_own_rows:PySem.W.codeIn K cd__law_own_rows "_law_own_rows" = true) (k__law_own_rows:PySem.W.keepIn K (.ref f__law_own_rows)=true)
  {f_law:Addr}{od_law an_law:Option Addr}{sl_law:Array (Option Value)}{oc_law kV_law dc_law pm_law cd_law ct_law:Value}
  (a_law:PySem.W.nsIn K mainGlobals "law" = some (some (.ref f_law))) (l_law:K.lookup f_law=some ⟨oc_law,od_law,.func (PySem.W.fnOf "law" "law" (Qj0 Zx4) (Qx9 Zx4) (Qz0 Zx4) .none kV_law dc_law pm_law an_law cd_law ct_law),sl_law⟩) (c_law:PySem.W.codeIn K cd_law "law" = true) (k_law:PySem.W.keepIn K (.ref f_law)=true)
  (pg_Line:PySem.W.plainGet K C_Line Str.empty=true) (hd_Line:PySem.W.hasDictIn K C_Line=true) (po_Line:PySem.W.plainOver K C_Line=true) (sa_Line:PySem.W.findIn K (.ref C_Line) "__setattr__" = some (some (.builtin "object.__setattr__"))) (mk_Line:PySem.W.makesIn K C_Line=true) (kc_Line:PySem.W.keepIn K (.ref C_Line)=true)
  (n_Line_shut:PySem.W.findIn K (.ref C_Line) "shut" = some none)
  (n_Line_length:PySem.W.findIn K (.ref C_Line) "length" = some none)
  (n_Line_choices:PySem.W.findIn K (.ref C_Line) "choices" = some none)
  (n_Line_known:PySem.W.findIn K (.ref C_Line) "known" = some none)
  (n_Line_rests:PySem.W.findIn K (.ref C_Line) "rests" = some none)
  (pg_Told:PySem.W.plainGet K C_Told Str.empty=true) (hd_Told:PySem.W.hasDictIn K C_Told=true) (po_Told:PySem.W.plainOver K C_Told=true) (sa_Told:PySem.W.findIn K (.ref C_Told) "__setattr__" = some (some (.builtin "object.__setattr__"))) (mk_Told:PySem.W.makesIn K C_Told=true) (kc_Told:PySem.W.keepIn K (.ref C_Told)=true)
  (n_Told_rows:PySem.W.findIn K (.ref C_Told) "rows" = some none)
  (n_Told_full:PySem.W.findIn K (.ref C_Told) "full" = some none)
  (n_Told_empty:PySem.W.findIn K (.ref C_Told) "empty" = some none)
  (pg_Search:PySem.W.plainGet K C_Search Str.empty=true) (hd_Search:PySem.W.hasDictIn K C_Search=true) (po_Search:PySem.W.plainOver K C_Search=true) (sa_Search:PySem.W.findIn K (.ref C_Search) "__setattr__" = some (some (.builtin "object.__setattr__"))) (mk_Search:PySem.W.makesIn K C_Search=true) (kc_Search:PySem.W.keepIn K (.ref C_Search)=true)
  (n_Search_rows:PySem.W.findIn K (.ref C_Search) "rows" = some none)
  (n_Search_columns:PySem.W.findIn K (.ref C_Search) "columns" = some none)
  (n_Search_lines:PySem.W.findIn K (.ref C_Search) "lines" = some none)
  (n_Search_pictures:PySem.W.findIn K (.ref C_Search) "pictures" = some none)
  (n_Search_barren:PySem.W.findIn K (.ref C_Search) "barren" = some none)
  (z_len:PySem.W.nsIn K mainGlobals "len" = some none)
  (z_range:PySem.W.nsIn K mainGlobals "range" = some none)
  (z_isinstance:PySem.W.nsIn K mainGlobals "isinstance" = some none)
  (z_all:PySem.W.nsIn K mainGlobals "all" = some none)
  (z_any:PySem.W.nsIn K mainGlobals "any" = some none)
  (z_sum:PySem.W.nsIn K mainGlobals "sum" = some none)
  (z_min:PySem.W.nsIn K mainGlobals "min" = some none)
  (z_max:PySem.W.nsIn K mainGlobals "max" = some none)
  (z_int:PySem.W.nsIn K mainGlobals "int" = some none)
  (z_bool:PySem.W.nsIn K mainGlobals "bool" = some none)
  (z_tuple:PySem.W.nsIn K mainGlobals "tuple" = some none)
  (z_list:PySem.W.nsIn K mainGlobals "list" = some none)
  (z_reversed:PySem.W.nsIn K mainGlobals "reversed" = some none)
  (z_zip:PySem.W.nsIn K mainGlobals "zip" = some none)
  (z_enumerate:PySem.W.nsIn K mainGlobals "enumerate" = some none)
  : ∃fd:FuncData,(∀(s:Shared) (v:Value),BindsTo s fd ⟨[v],[]⟩ [("script",v)])∧∀base:Heap,K.In base→base.Ns mainGlobals mg→FnOk l.prog w K mg base CX0 40 fa fd ["script"] (Zo8 K):=by
 have e:=hfa.symm.trans (PySem.W.mg_of X G a_law)
 cases e
 have B:Bt mg:=⟨PySem.W.mg_none_of X G z_len,PySem.W.mg_none_of X G z_range,PySem.W.mg_none_of X G z_isinstance,PySem.W.mg_none_of X G z_all,PySem.W.mg_none_of X G z_any,PySem.W.mg_none_of X G z_sum,PySem.W.mg_none_of X G z_min,PySem.W.mg_none_of X G z_max,PySem.W.mg_none_of X G z_int,PySem.W.mg_none_of X G z_bool,PySem.W.mg_none_of X G z_tuple,PySem.W.mg_none_of X G z_list,PySem.W.mg_none_of X G z_reversed⟩
 have Z:Bz mg:=⟨PySem.W.mg_none_of X G z_zip,PySem.W.mg_none_of X G z_enumerate⟩
 have F_packed_layings:=Qk5 (st:=Qb1) l_packed_layings c_packed_layings k_packed_layings
 have b_packed_layings:=F_packed_layings.binds (ps:=["runs","length"]) fun _ _ _ _ _ _ us hl=>match us,hl with|[_,_],_=>rfl
 have F_unpacked:=Qk5 (st:=Qn1) l_unpacked c_unpacked k_unpacked
 have b_unpacked:=F_unpacked.binds (ps:=["cells","length"]) fun _ _ _ _ _ _ us hl=>match us,hl with|[_,_],_=>rfl
 have F_with_forced:=Qk5 (st:=Qd1) l_with_forced c_with_forced k_with_forced
 have b_with_forced:=F_with_forced.binds (ps:=["forced","inner"]) fun _ _ _ _ _ _ us hl=>match us,hl with|[_,_],_=>rfl
 have F_Told___init__:=Qk5 (st:=Qp8) l_Told___init__ c_Told___init__ k_Told___init__
 have b_Told___init__:=F_Told___init__.binds (ps:=["self","rows","full","empty"]) fun _ _ _ _ _ _ us hl=>match us,hl with|[_,_,_,_],_=>rfl
 have F_Told_tell:=Qk5 (st:=Qr6) l_Told_tell c_Told_tell k_Told_tell
 have b_Told_tell:=F_Told_tell.binds (ps:=["self","row","column","value"]) fun _ _ _ _ _ _ us hl=>match us,hl with|[_,_,_,_],_=>rfl
 have F_Told_twin_with:=Qk5 (st:=Qb2) l_Told_twin_with c_Told_twin_with k_Told_twin_with
 have b_Told_twin_with:=F_Told_twin_with.binds (ps:=["self","row","column","value"]) fun _ _ _ _ _ _ us hl=>match us,hl with|[_,_,_,_],_=>rfl
 have F_Told_first_open:=Qk5 (st:=Qh0) l_Told_first_open c_Told_first_open k_Told_first_open
 have b_Told_first_open:=F_Told_first_open.binds (ps:=["self","columns"]) fun _ _ _ _ _ _ us hl=>match us,hl with|[_,_],_=>rfl
 have F_Told_picture:=Qk5 (st:=Qm5) l_Told_picture c_Told_picture k_Told_picture
 have b_Told_picture:=F_Told_picture.binds (ps:=["self","columns"]) fun _ _ _ _ _ _ us hl=>match us,hl with|[_,_],_=>rfl
 have F_Line_reckoned:=Qk5 (st:=Qp7) l_Line_reckoned c_Line_reckoned k_Line_reckoned
 have b_Line_reckoned:=F_Line_reckoned.binds (ps:=["self","full","empty"]) fun _ _ _ _ _ _ us hl=>match us,hl with|[_,_,_],_=>rfl
 have F_Line_seen:=Qk5 (st:=Ql3) l_Line_seen c_Line_seen k_Line_seen
 have b_Line_seen:=F_Line_seen.binds (ps:=["self","full","empty"]) fun _ _ _ _ _ _ us hl=>match us,hl with|[_,_,_],_=>rfl
 have F_Line___init__:=Qk5 (st:=Qp6) l_Line___init__ c_Line___init__ k_Line___init__
 have b_Line___init__:=F_Line___init__.binds (ps:=["self","kind","number","runs","length"]) fun _ _ _ _ _ _ us hl=>match us,hl with|[_,_,_,_,_],_=>rfl
 have F_Search_narrow:=Qk5 (st:=Qp9) l_Search_narrow c_Search_narrow k_Search_narrow
 have b_Search_narrow:=F_Search_narrow.binds (ps:=["self","told","changed","forced"]) fun _ _ _ _ _ _ us hl=>match us,hl with|[_,_,_,_],_=>rfl
 have F_Search_rests_of:=Qk5 (st:=Qh2) l_Search_rests_of c_Search_rests_of k_Search_rests_of
 have b_Search_rests_of:=F_Search_rests_of.binds (ps:=["self","told"]) fun _ _ _ _ _ _ us hl=>match us,hl with|[_,_],_=>rfl
 have F_Search_open_tree:=Qk5 (st:=Qv2) l_Search_open_tree c_Search_open_tree k_Search_open_tree
 have b_Search_open_tree:=F_Search_open_tree.binds (ps:=["self","told"]) fun _ _ _ _ _ _ us hl=>match us,hl with|[_,_],_=>rfl
 have F_Search_tree:=Qk5 (st:=Qf2) l_Search_tree c_Search_tree k_Search_tree
 have b_Search_tree:=F_Search_tree.binds (ps:=["self","told","changed"]) fun _ _ _ _ _ _ us hl=>match us,hl with|[_,_,_],_=>rfl
 have F_Search___init__:=Qk5 (st:=Qh1) l_Search___init__ c_Search___init__ k_Search___init__
 have b_Search___init__:=F_Search___init__.binds (ps:=["self","board"]) fun _ _ _ _ _ _ us hl=>match us,hl with|[_,_],_=>rfl
 have F_Search_whole_tree:=Qk5 (st:=Qy4) l_Search_whole_tree c_Search_whole_tree k_Search_whole_tree
 have b_Search_whole_tree:=F_Search_whole_tree.binds (ps:=["self"]) fun _ _ _ _ _ _ us hl=>match us,hl with|[_],_=>rfl
 have F_judged:=Qk5 (st:=Qo6) l_judged c_judged k_judged
 have b_judged:=F_judged.binds (ps:=["board"]) fun _ _ _ _ _ _ us hl=>match us,hl with|[_],_=>rfl
 have F__law_cell_at:=Qk5 (st:=Qm6) l__law_cell_at c__law_cell_at k__law_cell_at
 have b__law_cell_at:=F__law_cell_at.binds (ps:=["script","k"]) fun _ _ _ _ _ _ us hl=>match us,hl with|[_,_],_=>rfl
 have F__law_mix:=Qk5 (st:=Qn2) l__law_mix c__law_mix k__law_mix
 have b__law_mix:=F__law_mix.binds (ps:=["cell","k"]) fun _ _ _ _ _ _ us hl=>match us,hl with|[_,_],_=>rfl
 have F__law_runs:=Qk5 (st:=Qr7) l__law_runs c__law_runs k__law_runs
 have b__law_runs:=F__law_runs.binds (ps:=["cells"]) fun _ _ _ _ _ _ us hl=>match us,hl with|[_],_=>rfl
 have F__law_every:=Qk5 (st:=Qc2) l__law_every c__law_every k__law_every
 have b__law_every:=F__law_every.binds (ps:=["size"]) fun _ _ _ _ _ _ us hl=>match us,hl with|[_],_=>rfl
 have F__law_fitting:=Qk5 (st:=Qm7) l__law_fitting c__law_fitting k__law_fitting
 have b__law_fitting:=F__law_fitting.binds (ps:=["runs","sight"]) fun _ _ _ _ _ _ us hl=>match us,hl with|[_,_],_=>rfl
 have F__law_picture:=Qk5 (st:=Qm8) l__law_picture c__law_picture k__law_picture
 have b__law_picture:=F__law_picture.binds (ps:=["cell","rows","columns"]) fun _ _ _ _ _ _ us hl=>match us,hl with|[_,_,_],_=>rfl
 have F__law_column:=Qk5 (st:=Qd2) l__law_column c__law_column k__law_column
 have b__law_column:=F__law_column.binds (ps:=["rows","at"]) fun _ _ _ _ _ _ us hl=>match us,hl with|[_,_],_=>rfl
 have F__law_board:=Qk5 (st:=Qc3) l__law_board c__law_board k__law_board
 have b__law_board:=F__law_board.binds (ps:=["picture"]) fun _ _ _ _ _ _ us hl=>match us,hl with|[_],_=>rfl
 have F__law_any_board:=Qk5 (st:=Qb3) l__law_any_board c__law_any_board k__law_any_board
 have b__law_any_board:=F__law_any_board.binds (ps:=["cell","board"]) fun _ _ _ _ _ _ us hl=>match us,hl with|[_,_],_=>rfl
 have F__law_whole:=Qk5 (st:=Qc1) l__law_whole c__law_whole k__law_whole
 have b__law_whole:=F__law_whole.binds (ps:=["x"]) fun _ _ _ _ _ _ us hl=>match us,hl with|[_],_=>rfl
 have F__law_sight:=Qk5 (st:=Qc4) l__law_sight c__law_sight k__law_sight
 have b__law_sight:=F__law_sight.binds (ps:=["rows","side","at"]) fun _ _ _ _ _ _ us hl=>match us,hl with|[_,_,_],_=>rfl
 have F__law_is_picture:=Qk5 (st:=Qh3) l__law_is_picture c__law_is_picture k__law_is_picture
 have b__law_is_picture:=F__law_is_picture.binds (ps:=["found","board"]) fun _ _ _ _ _ _ us hl=>match us,hl with|[_,_],_=>rfl
 have F__law_leaves:=Qk5 (st:=Qh4) l__law_leaves c__law_leaves k__law_leaves
 have b__law_leaves:=F__law_leaves.binds (ps:=["board","tree","rows"]) fun _ _ _ _ _ _ us hl=>match us,hl with|[_,_,_],_=>rfl
 have F__law_own_rows:=Qk5 (st:=Qf0) l__law_own_rows c__law_own_rows k__law_own_rows
 have b__law_own_rows:=F__law_own_rows.binds (ps:=["picture","others"]) fun _ _ _ _ _ _ us hl=>match us,hl with|[_,_],_=>rfl
 have F_law:=Qk5 (st:=Zx4) l_law c_law k_law
 have T_Line:LT K C_Line:=⟨⟨pg_Line,hd_Line,po_Line,sa_Line⟩,n_Line_shut,n_Line_length,n_Line_choices,n_Line_known,n_Line_rests⟩
 have T_Told:TT K C_Told:=⟨⟨pg_Told,hd_Told,po_Told,sa_Told⟩,n_Told_rows,n_Told_full,n_Told_empty⟩
 have T_Search:ST K C_Search:=⟨⟨pg_Search,hd_Search,po_Search,sa_Search⟩,n_Search_rows,n_Search_columns,n_Search_lines,n_Search_pictures,n_Search_barren⟩
 refine⟨PySem.W.fnOf "law" "law" (Qj0 Zx4) (Qx9 Zx4) (Qz0 Zx4) .none kV_law dc_law pm_law an_law cd_law ct_law,fun s v=>.of_eq rfl,fun base _ _=>?_⟩
 have c_packed_layings:Callee l.prog w K mg base CX0 "packed_layings" 3 ["runs","length"] (Xv1 2):=⟨⟨f_packed_layings,_,PySem.W.mg_of X G a_packed_layings,k_packed_layings,b_packed_layings,Zz3 F_packed_layings B (fun k sp g=>⟨⟨f_packed_layings,_,PySem.W.mg_of X G a_packed_layings,k_packed_layings,b_packed_layings,g⟩⟩) 2⟩⟩
 have c_unpacked:Callee l.prog w K mg base CX0 "unpacked" 1 ["cells","length"] Zy4:=⟨⟨f_unpacked,_,PySem.W.mg_of X G a_unpacked,k_unpacked,b_unpacked,Xb6 F_unpacked B⟩⟩
 have c_with_forced:Callee l.prog w K mg base CX0 "with_forced" 1 ["forced","inner"] Xv2:=⟨⟨f_with_forced,_,PySem.W.mg_of X G a_with_forced,k_with_forced,b_with_forced,Xq2 F_with_forced B⟩⟩
 have G_Told___init__:FnOk l.prog w K mg base CX0 1 f_Told___init__ _ ["self","rows","full","empty"] (Qi7 C_Told):=Zs6 F_Told___init__ B T_Told
 have mk_Told:Maker l.prog w K mg base CX0 "Told" C_Told 1 ["self","rows","full","empty"] (Qi7 C_Told):=⟨f_Told___init__,_,PySem.W.mg_of X G aC_Told,⟨mk_Told,a_Told___init__,i_Told___init__,kc_Told⟩,b_Told___init__,G_Told___init__⟩
 have G_Told_tell:FnOk l.prog w K mg base CX0 1 f_Told_tell _ ["self","row","column","value"] (Zv4 C_Told):=Xg9 F_Told_tell B T_Told
 have m_tell:Method l.prog w K mg base CX0 C_Told "tell" 1 ["self","row","column","value"] (Zv4 C_Told):=⟨T_Told.cl,f_Told_tell,_,⟨a_Told_tell,i_Told_tell,k_Told_tell⟩,b_Told_tell,G_Told_tell⟩
 have G_Told_twin_with:FnOk l.prog w K mg base CX0 3 f_Told_twin_with _ ["self","row","column","value"] (Zg9 C_Told):=Zl9 F_Told_twin_with T_Told mk_Told m_tell
 have m_twin_with:Method l.prog w K mg base CX0 C_Told "twin_with" 3 ["self","row","column","value"] (Zg9 C_Told):=⟨T_Told.cl,f_Told_twin_with,_,⟨a_Told_twin_with,i_Told_twin_with,k_Told_twin_with⟩,b_Told_twin_with,G_Told_twin_with⟩
 have G_Told_first_open:FnOk l.prog w K mg base CX0 1 f_Told_first_open _ ["self","columns"] (Qo7 C_Told):=Zu1 F_Told_first_open B T_Told
 have m_first_open:Method l.prog w K mg base CX0 C_Told "first_open" 1 ["self","columns"] (Qo7 C_Told):=⟨T_Told.cl,f_Told_first_open,_,⟨a_Told_first_open,i_Told_first_open,k_Told_first_open⟩,b_Told_first_open,G_Told_first_open⟩
 have G_Told_picture:FnOk l.prog w K mg base CX0 2 f_Told_picture _ ["self","columns"] (Zk0 C_Told):=Za8 F_Told_picture B T_Told c_unpacked
 have m_picture:Method l.prog w K mg base CX0 C_Told "picture" 2 ["self","columns"] (Zk0 C_Told):=⟨T_Told.cl,f_Told_picture,_,⟨a_Told_picture,i_Told_picture,k_Told_picture⟩,b_Told_picture,G_Told_picture⟩
 have G_Line_reckoned:FnOk l.prog w K mg base CX0 1 f_Line_reckoned _ ["self","full","empty"] (Zl4 l.prog w C_Line):=Zs8 F_Line_reckoned B T_Line
 have m_reckoned:Method l.prog w K mg base CX0 C_Line "reckoned" 1 ["self","full","empty"] (Zl4 l.prog w C_Line):=⟨T_Line.cl,f_Line_reckoned,_,⟨a_Line_reckoned,i_Line_reckoned,k_Line_reckoned⟩,b_Line_reckoned,G_Line_reckoned⟩
 have G_Line_seen:FnOk l.prog w K mg base CX0 2 f_Line_seen _ ["self","full","empty"] (Zh1 l.prog w C_Line):=Xh2 F_Line_seen T_Line m_reckoned
 have m_seen:Method l.prog w K mg base CX0 C_Line "seen" 2 ["self","full","empty"] (Zh1 l.prog w C_Line):=⟨T_Line.cl,f_Line_seen,_,⟨a_Line_seen,i_Line_seen,k_Line_seen⟩,b_Line_seen,G_Line_seen⟩
 have G_Line___init__:FnOk l.prog w K mg base CX0 4 f_Line___init__ _ ["self","kind","number","runs","length"] (Zv6 l.prog w C_Line):=Zn0 F_Line___init__ T_Line c_packed_layings
 have mk_Line:Maker l.prog w K mg base CX0 "Line" C_Line 4 ["self","kind","number","runs","length"] (Zv6 l.prog w C_Line):=⟨f_Line___init__,_,PySem.W.mg_of X G aC_Line,⟨mk_Line,a_Line___init__,i_Line___init__,kc_Line⟩,b_Line___init__,G_Line___init__⟩
 have G_Search_narrow:FnOk l.prog w K mg base CX0 3 f_Search_narrow _ ["self","told","changed","forced"] (Zu4 l.prog w C_Search C_Line C_Told):=Zn1 F_Search_narrow B T_Search T_Line T_Told m_seen m_tell
 have m_narrow:Method l.prog w K mg base CX0 C_Search "narrow" 3 ["self","told","changed","forced"] (Zu4 l.prog w C_Search C_Line C_Told):=⟨T_Search.cl,f_Search_narrow,_,⟨a_Search_narrow,i_Search_narrow,k_Search_narrow⟩,b_Search_narrow,G_Search_narrow⟩
 have G_Search_rests_of:FnOk l.prog w K mg base CX0 3 f_Search_rests_of _ ["self","told"] (Zu5 l.prog w C_Search C_Line C_Told):=Zu7 F_Search_rests_of B Z T_Search T_Line T_Told m_seen
 have m_rests_of:Method l.prog w K mg base CX0 C_Search "rests_of" 3 ["self","told"] (Zu5 l.prog w C_Search C_Line C_Told):=⟨T_Search.cl,f_Search_rests_of,_,⟨a_Search_rests_of,i_Search_rests_of,k_Search_rests_of⟩,b_Search_rests_of,G_Search_rests_of⟩
 have G_Search_tree:FnOk l.prog w K mg base CX0 37 f_Search_tree _ ["self","told","changed"] (Qe0 l.prog w C_Search C_Line C_Told 16):=Xj2 F_Search_open_tree F_Search_tree B T_Search T_Told m_first_open m_picture m_rests_of m_twin_with m_narrow c_with_forced (fun k sp g=>⟨T_Search.cl,f_Search_open_tree,_,⟨a_Search_open_tree,i_Search_open_tree,k_Search_open_tree⟩,b_Search_open_tree,g⟩) (fun k sp g=>⟨T_Search.cl,f_Search_tree,_,⟨a_Search_tree,i_Search_tree,k_Search_tree⟩,b_Search_tree,g⟩) 16
 have m_tree:Method l.prog w K mg base CX0 C_Search "tree" 37 ["self","told","changed"] (Qe0 l.prog w C_Search C_Line C_Told 16):=⟨T_Search.cl,f_Search_tree,_,⟨a_Search_tree,i_Search_tree,k_Search_tree⟩,b_Search_tree,G_Search_tree⟩
 have G_Search___init__:FnOk l.prog w K mg base CX0 6 f_Search___init__ _ ["self","board"] (Zv9 l.prog w C_Search C_Line):=Zu9 F_Search___init__ B Z T_Search mk_Line
 have mk_Search:Maker l.prog w K mg base CX0 "Search" C_Search 6 ["self","board"] (Zv9 l.prog w C_Search C_Line):=⟨f_Search___init__,_,PySem.W.mg_of X G aC_Search,⟨mk_Search,a_Search___init__,i_Search___init__,kc_Search⟩,b_Search___init__,G_Search___init__⟩
 have G_Search_whole_tree:FnOk l.prog w K mg base CX0 38 f_Search_whole_tree _ ["self"] (Zp4 l.prog w C_Search C_Line):=Zp5 F_Search_whole_tree B T_Search mk_Told m_tree
 have m_whole_tree:Method l.prog w K mg base CX0 C_Search "whole_tree" 38 ["self"] (Zp4 l.prog w C_Search C_Line):=⟨T_Search.cl,f_Search_whole_tree,_,⟨a_Search_whole_tree,i_Search_whole_tree,k_Search_whole_tree⟩,b_Search_whole_tree,G_Search_whole_tree⟩
 have c_judged:Callee l.prog w K mg base CX0 "judged" 39 ["board"] Zd0:=⟨⟨f_judged,_,PySem.W.mg_of X G a_judged,k_judged,b_judged,Xt0 F_judged B T_Search mk_Search m_whole_tree⟩⟩
 have c__law_cell_at:Callee l.prog w K mg base CX0 "_law_cell_at" 1 ["script","k"] (Qt9 K):=⟨⟨f__law_cell_at,_,PySem.W.mg_of X G a__law_cell_at,k__law_cell_at,b__law_cell_at,Za3 F__law_cell_at B⟩⟩
 have c__law_mix:Callee l.prog w K mg base CX0 "_law_mix" 1 ["cell","k"] Qe5:=⟨⟨f__law_mix,_,PySem.W.mg_of X G a__law_mix,k__law_mix,b__law_mix,Xb4 F__law_mix⟩⟩
 have c__law_runs:Callee l.prog w K mg base CX0 "_law_runs" 1 ["cells"] Qa0:=⟨⟨f__law_runs,_,PySem.W.mg_of X G a__law_runs,k__law_runs,b__law_runs,Xg2 F__law_runs B⟩⟩
 have c__law_every:Callee l.prog w K mg base CX0 "_law_every" 1 ["size"] Zz1:=⟨⟨f__law_every,_,PySem.W.mg_of X G a__law_every,k__law_every,b__law_every,Xk2 F__law_every B⟩⟩
 have c__law_fitting:Callee l.prog w K mg base CX0 "_law_fitting" 2 ["runs","sight"] Qs2:=⟨⟨f__law_fitting,_,PySem.W.mg_of X G a__law_fitting,k__law_fitting,b__law_fitting,Zo5 F__law_fitting B c__law_every c__law_runs⟩⟩
 have c__law_picture:Callee l.prog w K mg base CX0 "_law_picture" 2 ["cell","rows","columns"] Qa1:=⟨⟨f__law_picture,_,PySem.W.mg_of X G a__law_picture,k__law_picture,b__law_picture,Za4 F__law_picture B c__law_mix⟩⟩
 have c__law_column:Callee l.prog w K mg base CX0 "_law_column" 1 ["rows","at"] Zm5:=⟨⟨f__law_column,_,PySem.W.mg_of X G a__law_column,k__law_column,b__law_column,Ze7 F__law_column B⟩⟩
 have c__law_board:Callee l.prog w K mg base CX0 "_law_board" 3 ["picture"] Zb8:=⟨⟨f__law_board,_,PySem.W.mg_of X G a__law_board,k__law_board,b__law_board,Xk1 F__law_board B c__law_column c__law_runs⟩⟩
 have c__law_any_board:Callee l.prog w K mg base CX0 "_law_any_board" 2 ["cell","board"] Qn6:=⟨⟨f__law_any_board,_,PySem.W.mg_of X G a__law_any_board,k__law_any_board,b__law_any_board,Zc0 F__law_any_board B c__law_mix⟩⟩
 have c__law_whole:Callee l.prog w K mg base CX0 "_law_whole" 1 ["x"] Zz2:=⟨⟨f__law_whole,_,PySem.W.mg_of X G a__law_whole,k__law_whole,b__law_whole,Xk6 F__law_whole B⟩⟩
 have c__law_sight:Callee l.prog w K mg base CX0 "_law_sight" 1 ["rows","side","at"] Qi4:=⟨⟨f__law_sight,_,PySem.W.mg_of X G a__law_sight,k__law_sight,b__law_sight,Xk4 F__law_sight B⟩⟩
 have c__law_is_picture:Callee l.prog w K mg base CX0 "_law_is_picture" 4 ["found","board"] Qp3:=⟨⟨f__law_is_picture,_,PySem.W.mg_of X G a__law_is_picture,k__law_is_picture,b__law_is_picture,Zd5 F__law_is_picture B c__law_whole c__law_board⟩⟩
 have c__law_leaves:Callee l.prog w K mg base CX0 "_law_leaves" 22 ["board","tree","rows"] (Zq8 16):=⟨⟨f__law_leaves,_,PySem.W.mg_of X G a__law_leaves,k__law_leaves,b__law_leaves,Zo6 F__law_leaves B c__law_is_picture c__law_fitting c__law_sight (fun k sp g=>⟨⟨f__law_leaves,_,PySem.W.mg_of X G a__law_leaves,k__law_leaves,b__law_leaves,g⟩⟩) 16⟩⟩
 have c__law_own_rows:Callee l.prog w K mg base CX0 "_law_own_rows" 1 ["picture","others"] Qc9:=⟨⟨f__law_own_rows,_,PySem.W.mg_of X G a__law_own_rows,k__law_own_rows,b__law_own_rows,Zn7 F__law_own_rows B⟩⟩
 exact Yp1 F_law B c__law_cell_at c__law_picture c__law_board c__law_any_board c__law_is_picture c__law_leaves c__law_own_rows c_judged
theorem walk {l:PySem.W.OpenLaw}{q:Program}{loose:List Str}{XP:(Str→Option Value)→Heap→Prop}{YP:World→Heap→Prop}{d:DefRec}{K:Params→PySem.W.Frag} (hn:l.most=some 63) (hdf:d.params.defaults=[])
  (hY:∀(w:World) (h:Heap),YP w h→(K w.params).In h)
  (F:∀(w:World) (mg:Str→Option Value) (fa:Addr) (h:Heap),(K w.params).In h→h.Ns mainGlobals mg→mg d.name=some (.ref fa) →
   ∃fd:FuncData,(∀(s:Shared) (u:Value),BindsTo s fd ⟨[u],[]⟩ [("script",u)])∧∀base:Heap,(K w.params).In base→base.Ns mainGlobals mg→FnOk l.prog w (K w.params) mg base CX0 40 fa fd ["script"] (Zo8 (K w.params))) :
  PySem.W.WalkO q loose XP YP l.row.toRowW d [] (fun f vs=>PySem.call f vs) :=
 L2.walk_of (n:=63) (k:=40) (x := "script") (CX:=fun _=>CX0) (sp:=fun w=>Zo8 (K w.params)) hn (by decide) hdf ⟨rfl,by decide,by decide⟩ hY F (fun _ _ a ns hl _ hS=>⟨a,ns,rfl,hS,hl,fun _=>rfl⟩) fun _ _ _ _ _ z=>z
end K12
namespace PySem.W.Fast
def tw10533155790513813456:=0
def tw12059766080409041068:=0
def tw11241852884806329573:=0
def tw12399380746579878270:=0
def tw6620850321975161946:=0
def tw17880921138075492654:=0
def tw11265630325070859880:=0
def tw912082341428342729:=0
def tw2227165341795755100:=0
def tw10650796519626414962:=0
def tw4850391194452576460:=0
def tw12436166060107968446:=0
def tw8790559788932960721:=0
def tw3450937127191399673:=0
def tw11922338388436996844:=0
def tw14652071206303908377:=0
def tw15518113535702647499:=0
def tw5985004347854950425:=0
def tw16805474632833667643:=0
def tw9474941029481262990:=0
def tw10206700240764401477:=0
def tw2207685285939795671:=0
def tw13327461569491968000:=0
def tw11969757796302309110:=0
def tw4161859395592073090:=0
def tw11016877175904021619:=0
def tw7180026787537161970:=0
def tw9980681305186134819:=0
def tw14117393534091984906:=0
def tw5237955419318132282:=0
def tw15083674163450018982:=0
def tw16536396364859430402:=0
def tw6058379520469365830:=0
def tw8218818356581345625:=0
def tw3804948712158108196:=0
def tw7832846315338055996:=0
def tw6468602143333524526:=0
def tw5217214177503189559:=0
def tw1636706579788507005:=0
def tw16915804993707876295:=0
def tw13696659482055017839:=0
def tw3539134506663263005:=0
def tw13863723502080764696:=0
def tw4172167878465833373:=0
def tw6932190804082906700:=0
def tw9531931113516517048:=0
def tw14836988023825564594:=0
def tw8346600719870563161:=0
def tw13285534591686611388:=0
def tw4327890082391153338:=0
def tw2534418723090781568:=0
def tw1442476649719623554:=0
def tw8115116132853175717:=0
def tw2223798552809034903:=0
def tw14453441902186756051:=0
def tw11721910521457729991:=0
def tw6796726578425523644:=0
def tw6966232146695215264:=0
def tw2554731821822664505:=0
def tw12796597092779369157:=0
def tw16255179645246196564:=0
def tw17790890157075438222:=0
def tw6449262434320542133:=0
def tw5841399381632160765:=0
def tw8037552695239327399:=0
def tw17560039214920238503:=0
def tw9373253955216452328:=0
def tw5599197608239960467:=0
def tw11290958168711949934:=0
def tw16442725429415845178:=0
def tw15287418310194363890:=0
def tw3175560208740051016:=0
def tw5297104513583542404:=0
def tw18278061758640827341:=0
def tw12333426664488966590:=0
def tw4592461547434018164:=0
def tw14126420552283782019:=0
def tw6129687179371367658:=0
def tw14993355974513703377:=0
def tw14763968799961257411:=0
def tw4269106559763171231:=0
def tw10108259915826797554:=0
def tw16352234000989666855:=0
def tw3078710655957386442:=0
def tw3559427251486357715:=0
def tw11758184457963734787:=0
def tw12528734954286555014:=0
def tw15026381729059528697:=0
def tw14277622549706862335:=0
def tw7540255900315925253:=0
def tw11723457956650720773:=0
def tw5063580062195095395:=0
def tw5645302084400495612:=0
def tw4657215772462627218:=0
def tw3158451081444795318:=0
def tw3095853706577414203:=0
def tw10056976082421888740:=0
def tw160599651553513602:=0
def tw16822686446271583776:=0
def tw17606506923789173624:=0
def tw11400498115830080160:=0
def tw8904237961719977051:=0
def tw14567851576371075598:=0
def tw5634677433892437362:=0
def tw6862145200987901784:=0
def tw4157461615497550135:=0
def tw17022557623842617277:=0
def tw9988408679535273059:=0
def tw11915702699728515859:=0
def tw14239833443643694390:=0
def tw10215403678182649879:=0
def tw12818565685388181317:=0
def tw4367681968906860060:=0
def tw14558576015596781025:=0
def tw16386619029213727564:=0
def tw16888181091394476514:=0
def tw14861287059035154617:=0
def tw13038741469754729360:=0
def tw7564256519431425279:=0
def tw1972371473005197044:=0
def tw4798598263089545628:=0
def tw15355575175105957415:=0
def tw7565562787135566693:=0
def tw18014838525253557660:=0
def tw980114688344609066:=0
def tw9057540538478108886:=0
def tw11053770777889067015:=0
def tw13414140614066866180:=0
def tw22789107436367898:=0
def tw10762885660882383148:=0
def tw11723688018790366725:=0
def tw6824217349004587963:=0
def tw5181512487941481236:=0
def tw9680821496210004709:=0
def tw8991201706213070892:=0
def tw7693916424481986581:=0
def tw5168476814265984007:=0
def tw13700157836615227926:=0
def tw15901684650639322485:=0
def tw2616105672663721091:=0
def tw1736976730353551446:=0
def tw9288378904597771243:=0
def tw2596040047839959010:=0
def tw5322635849723206163:=0
def tw12124343581197250792:=0
def tw7372551099840943780:=0
def tw8742441466707312174:=0
def tw17493807447328191572:=0
def tw10482255063035843534:=0
def tw8374793624027575552:=0
def tw7016184779327288414:=0
def tw1564721490652122059:=0
def tw3687664257058150584:=0
def tw5909721023608886771:=0
def tw2495744430387147676:=0
def tw2865601461367781869:=0
def tw5154427761106095965:=0
def tw15324226500784990603:=0
def tw5362598497193448912:=0
def tw10966236086112279588:=0
def tw2526684583966859395:=0
def tw12960094081812555600:=0
def tw7942634221622955396:=0
def tw3185962787698246801:=0
def tw8975807005777457895:=0
def tw11941066729454750846:=0
def tw2832023146967372677:=0
def tw4464379852812050785:=0
def tw6711913179878991472:=0
def tw13982991616511378446:=0
def tw6436539521732960094:=0
def tw1779489851923970116:=0
def tw7411516760189899635:=0
def tw2561297017770784121:=0
def tw16522277532066019941:=0
def tw3033710657278251333:=0
def tw12434680507611796473:=0
def tw2433250733244386669:=0
def tw5824325767831056543:=0
def tw8452075986440591244:=0
def tw11209501862108273074:=0
def tw14102758780653284279:=0
def tw2795815511306395216:=0
def tw11599099914997692605:=0
def tw14579187363640693262:=0
def tw18022867978953600629:=0
def tw10763859984333290552:=0
def tw4000962291562751775:=0
def tw10622916075623555685:=0
def tw16248434104669659584:=0
def tw2594283755995279502:=0
def tw18172325205671635803:=0
def tw7546998587319140719:=0
def tw11078865826362447734:=0
def tw4898441664143030893:=0
def tw1578756403308072077:=0
def tw18009306159142178444:=0
def tw18146306330853819532:=0
def tw10480693334684637906:=0
def tw9996089466468012704:=0
def tw16486369589790798084:=0
def tw7330420942262544813:=0
def tw14086408267366789189:=0
def tw4032258546674712329:=0
def tw5848987655020196120:=0
def tw11177888916733545715:=0
def tw9488558732432460499:=0
def tw3724223825696522001:=0
def tw1478295945717250845:=0
def tw8840250886138016748:=0
def tw12776533703277233946:=0
def tw7257493919084761456:=0
def tw2439316317979632462:=0
def tw14083111341069805872:=0
def tw2772033163729928532:=0
def tw6885087202939307859:=0
def tw3602602534318943973:=0
def tw18334701144923468394:=0
def tw14878268975880285512:=0
def tw3943601572592255965:=0
def tw9199858067970608417:=0
def tw5750646263938032187:=0
def tw17379647320528790952:=0
def tw15339742018152159913:=0
def tw1904024832164792651:=0
def tw7836247892179820790:=0
def tw1004271123049059803:=0
def tw5166056885263568015:=0
end PySem.W.Fast
open PySem PySem.W PyProof.Rows
set_option maxRecDepth 100000 in
set_option maxHeartbeats 0 in
theorem PySem.Challenge.cw_runpaint_k11_whole_judged_holds : PySem.Challenge.rw_runpaint_k11_whole_judged.Holds := by
 w_on;o_law;k_head;(case hw=>w_witness2)
 k_fill
 refine K12.walk (l:=PySem.Challenge.rw_runpaint_k11_whole_judged) rfl rfl (fun w h Y=>PySem.W.kIn_of Y) ?F
 case F =>
  intro w mg fa h KX G hmg
  refine' K12.all_mk KX G hmg ?aC_Line ?aC_Told ?aC_Search ?a_packed_layings ?l_packed_layings ?c_packed_layings ?k_packed_layings ?a_unpacked ?l_unpacked ?c_unpacked ?k_unpacked ?a_with_forced ?l_with_forced ?c_with_forced ?k_with_forced ?a_Told___init__ ?i_Told___init__ ?l_Told___init__ ?c_Told___init__ ?k_Told___init__ ?a_Told_tell ?i_Told_tell ?l_Told_tell ?c_Told_tell ?k_Told_tell ?a_Told_twin_with ?i_Told_twin_with ?l_Told_twin_with ?c_Told_twin_with ?k_Told_twin_with ?a_Told_first_open ?i_Told_first_open ?l_Told_first_open ?c_Told_first_open ?k_Told_first_open ?a_Told_picture ?i_Told_picture ?l_Told_picture ?c_Told_picture ?k_Told_picture ?a_Line_reckoned ?i_Line_reckoned ?l_Line_reckoned ?c_Line_reckoned ?k_Line_reckoned ?a_Line_seen ?i_Line_seen ?l_Line_seen ?c_Line_seen ?k_Line_seen ?a_Line___init__ ?i_Line___init__ ?l_Line___init__ ?c_Line___init__ ?k_Line___init__ ?a_Search_narrow ?i_Search_narrow ?l_Search_narrow ?c_Search_narrow ?k_Search_narrow ?a_Search_rests_of ?i_Search_rests_of ?l_Search_rests_of ?c_Search_rests_of ?k_Search_rests_of ?a_Search_open_tree ?i_Search_open_tree ?l_Search_open_tree ?c_Search_open_tree ?k_Search_open_tree ?a_Search_tree ?i_Search_tree ?l_Search_tree ?c_Search_tree ?k_Search_tree ?a_Search___init__ ?i_Search___init__ ?l_Search___init__ ?c_Search___init__ ?k_Search___init__ ?a_Search_whole_tree ?i_Search_whole_tree ?l_Search_whole_tree ?c_Search_whole_tree ?k_Search_whole_tree ?a_judged ?l_judged ?c_judged ?k_judged ?a__law_cell_at ?l__law_cell_at ?c__law_cell_at ?k__law_cell_at ?a__law_mix ?l__law_mix ?c__law_mix ?k__law_mix ?a__law_runs ?l__law_runs ?c__law_runs ?k__law_runs ?a__law_every ?l__law_every ?c__law_every ?k__law_every ?a__law_fitting ?l__law_fitting ?c__law_fitting ?k__law_fitting ?a__law_picture ?l__law_picture ?c__law_picture ?k__law_picture ?a__law_column ?l__law_column ?c__law_column ?k__law_column ?a__law_board ?l__law_board ?c__law_board ?k__law_board ?a__law_any_board ?l__law_any_board ?c__law_any_board ?k__law_any_board ?a__law_whole ?l__law_whole ?c__law_whole ?k__law_whole ?a__law_sight ?l__law_sight ?c__law_sight ?k__law_sight ?a__law_is_picture ?l__law_is_picture ?c__law_is_picture ?k__law_is_picture ?a__law_leaves ?l__law_leaves ?c__law_leaves ?k__law_leaves ?a__law_own_rows ?l__law_own_rows ?c__law_own_rows ?k__law_own_rows ?a_law ?l_law ?c_law ?k_law ?pg_Line ?hd_Line ?po_Line ?sa_Line ?mk_Line ?kc_Line ?n_Line_shut ?n_Line_length ?n_Line_choices ?n_Line_known ?n_Line_rests ?pg_Told ?hd_Told ?po_Told ?sa_Told ?mk_Told ?kc_Told ?n_Told_rows ?n_Told_full ?n_Told_empty ?pg_Search ?hd_Search ?po_Search ?sa_Search ?mk_Search ?kc_Search ?n_Search_rows ?n_Search_columns ?n_Search_lines ?n_Search_pictures ?n_Search_barren ?z_len ?z_range ?z_isinstance ?z_all ?z_any ?z_sum ?z_min ?z_max ?z_int ?z_bool ?z_tuple ?z_list ?z_reversed ?z_zip ?z_enumerate
  (case aC_Line=>k_is)
  (case aC_Told=>k_is)
  (case aC_Search=>k_is)
  (case a_packed_layings=>k_is)
  (case l_packed_layings=>k_is)
  (case c_packed_layings=>k_is)
  (case k_packed_layings=>k_is)
  (case a_unpacked=>k_is)
  (case l_unpacked=>k_is)
  (case c_unpacked=>k_is)
  (case k_unpacked=>k_is)
  (case a_with_forced=>k_is)
  (case l_with_forced=>k_is)
  (case c_with_forced=>k_is)
  (case k_with_forced=>k_is)
  (case a_Told___init__=>k_is)
  (case i_Told___init__=>k_is)
  (case l_Told___init__=>k_is)
  (case c_Told___init__=>k_is)
  (case k_Told___init__=>k_is)
  (case a_Told_tell=>k_is)
  (case i_Told_tell=>k_is)
  (case l_Told_tell=>k_is)
  (case c_Told_tell=>k_is)
  (case k_Told_tell=>k_is)
  (case a_Told_twin_with=>k_is)
  (case i_Told_twin_with=>k_is)
  (case l_Told_twin_with=>k_is)
  (case c_Told_twin_with=>k_is)
  (case k_Told_twin_with=>k_is)
  (case a_Told_first_open=>k_is)
  (case i_Told_first_open=>k_is)
  (case l_Told_first_open=>k_is)
  (case c_Told_first_open=>k_is)
  (case k_Told_first_open=>k_is)
  (case a_Told_picture=>k_is)
  (case i_Told_picture=>k_is)
  (case l_Told_picture=>k_is)
  (case c_Told_picture=>k_is)
  (case k_Told_picture=>k_is)
  (case a_Line_reckoned=>k_is)
  (case i_Line_reckoned=>k_is)
  (case l_Line_reckoned=>k_is)
  (case c_Line_reckoned=>k_is)
  (case k_Line_reckoned=>k_is)
  (case a_Line_seen=>k_is)
  (case i_Line_seen=>k_is)
  (case l_Line_seen=>k_is)
  (case c_Line_seen=>k_is)
  (case k_Line_seen=>k_is)
  (case a_Line___init__=>k_is)
  (case i_Line___init__=>k_is)
  (case l_Line___init__=>k_is)
  (case c_Line___init__=>k_is)
  (case k_Line___init__=>k_is)
  (case a_Search_narrow=>k_is)
  (case i_Search_narrow=>k_is)
  (case l_Search_narrow=>k_is)
  (case c_Search_narrow=>k_is)
  (case k_Search_narrow=>k_is)
  (case a_Search_rests_of=>k_is)
  (case i_Search_rests_of=>k_is)
  (case l_Search_rests_of=>k_is)
  (case c_Search_rests_of=>k_is)
  (case k_Search_rests_of=>k_is)
  (case a_Search_open_tree=>k_is)
  (case i_Search_open_tree=>k_is)
  (case l_Search_open_tree=>k_is)
  (case c_Search_open_tree=>k_is)
  (case k_Search_open_tree=>k_is)
  (case a_Search_tree=>k_is)
  (case i_Search_tree=>k_is)
  (case l_Search_tree=>k_is)
  (case c_Search_tree=>k_is)
  (case k_Search_tree=>k_is)
  (case a_Search___init__=>k_is)
  (case i_Search___init__=>k_is)
  (case l_Search___init__=>k_is)
  (case c_Search___init__=>k_is)
  (case k_Search___init__=>k_is)
  (case a_Search_whole_tree=>k_is)
  (case i_Search_whole_tree=>k_is)
  (case l_Search_whole_tree=>k_is)
  (case c_Search_whole_tree=>k_is)
  (case k_Search_whole_tree=>k_is)
  (case a_judged=>k_is)
  (case l_judged=>k_is)
  (case c_judged=>k_is)
  (case k_judged=>k_is)
  (case a__law_cell_at=>k_is)
  (case l__law_cell_at=>k_is)
  (case c__law_cell_at=>k_is)
  (case k__law_cell_at=>k_is)
  (case a__law_mix=>k_is)
  (case l__law_mix=>k_is)
  (case c__law_mix=>k_is)
  (case k__law_mix=>k_is)
  (case a__law_runs=>k_is)
  (case l__law_runs=>k_is)
  (case c__law_runs=>k_is)
  (case k__law_runs=>k_is)
  (case a__law_every=>k_is)
  (case l__law_every=>k_is)
  (case c__law_every=>k_is)
  (case k__law_every=>k_is)
  (case a__law_fitting=>k_is)
  (case l__law_fitting=>k_is)
  (case c__law_fitting=>k_is)
  (case k__law_fitting=>k_is)
  (case a__law_picture=>k_is)
  (case l__law_picture=>k_is)
  (case c__law_picture=>k_is)
  (case k__law_picture=>k_is)
  (case a__law_column=>k_is)
  (case l__law_column=>k_is)
  (case c__law_column=>k_is)
  (case k__law_column=>k_is)
  (case a__law_board=>k_is)
  (case l__law_board=>k_is)
  (case c__law_board=>k_is)
  (case k__law_board=>k_is)
  (case a__law_any_board=>k_is)
  (case l__law_any_board=>k_is)
  (case c__law_any_board=>k_is)
  (case k__law_any_board=>k_is)
  (case a__law_whole=>k_is)
  (case l__law_whole=>k_is)
  (case c__law_whole=>k_is)
  (case k__law_whole=>k_is)
  (case a__law_sight=>k_is)
  (case l__law_sight=>k_is)
  (case c__law_sight=>k_is)
  (case k__law_sight=>k_is)
  (case a__law_is_picture=>k_is)
  (case l__law_is_picture=>k_is)
  (case c__law_is_picture=>k_is)
  (case k__law_is_picture=>k_is)
  (case a__law_leaves=>k_is)
  (case l__law_leaves=>k_is)
  (case c__law_leaves=>k_is)
  (case k__law_leaves=>k_is)
  (case a__law_own_rows=>k_is)
  (case l__law_own_rows=>k_is)
  (case c__law_own_rows=>k_is)
  (case k__law_own_rows=>k_is)
  (case a_law=>k_is)
  (case l_law=>k_is)
  (case c_law=>k_is)
  (case k_law=>k_is)
  (case pg_Line=>k_is)
  (case hd_Line=>k_is)
  (case po_Line=>k_is)
  (case sa_Line=>k_is)
  (case mk_Line=>k_is)
  (case kc_Line=>k_is)
  (case n_Line_shut=>k_is)
  (case n_Line_length=>k_is)
  (case n_Line_choices=>k_is)
  (case n_Line_known=>k_is)
  (case n_Line_rests=>k_is)
  (case pg_Told=>k_is)
  (case hd_Told=>k_is)
  (case po_Told=>k_is)
  (case sa_Told=>k_is)
  (case mk_Told=>k_is)
  (case kc_Told=>k_is)
  (case n_Told_rows=>k_is)
  (case n_Told_full=>k_is)
  (case n_Told_empty=>k_is)
  (case pg_Search=>k_is)
  (case hd_Search=>k_is)
  (case po_Search=>k_is)
  (case sa_Search=>k_is)
  (case mk_Search=>k_is)
  (case kc_Search=>k_is)
  (case n_Search_rows=>k_is)
  (case n_Search_columns=>k_is)
  (case n_Search_lines=>k_is)
  (case n_Search_pictures=>k_is)
  (case n_Search_barren=>k_is)
  (case z_len=>k_is)
  (case z_range=>k_is)
  (case z_isinstance=>k_is)
  (case z_all=>k_is)
  (case z_any=>k_is)
  (case z_sum=>k_is)
  (case z_min=>k_is)
  (case z_max=>k_is)
  (case z_int=>k_is)
  (case z_bool=>k_is)
  (case z_tuple=>k_is)
  (case z_list=>k_is)
  (case z_reversed=>k_is)
  (case z_zip=>k_is)
  (case z_enumerate=>k_is)
#print axioms PySem.Challenge.cw_runpaint_k11_whole_judged_holds
